/- Walks of the document's answer: a chain that no van can go. -/
import Derived.Test.YtebinaopncclgabGreatDoorRNode
import Derived.Test.YtebinaopncclgabGreatDoorGBase
import Derived.Test.YtebinaopncclgabGreatDoorDWant
import Derived.Test.YtebinaopncclgabGreatDoorGHall
import Derived.Test.YtebinaopncclgabGreatDoorFPlain
import Derived.Test.YtebinaopncclgabGreatDoorCPlain
import Derived.Test.YtebinaopncclgabGreatDoorCRcells
import Derived.Test.YtebinaopncclgabGreatDoorQJudge
import Derived.Test.YtebinaopncclgabGreatDoorRBeg
import Derived.Test.YtebinaopncclgabGreatDoorGChain
import Derived.Test.YtebinaopncclgabGreatDoorJCall
namespace Go.Proofs.YtebinaopncclgabGreatDoor
open Go.RowKit Go.IntWalk

theorem getD_get {zs : List Int} {k : Nat} (h : k < zs.length) : zs.getD k 0 = zs[k] := by rw [List.getD_eq_getElem?_getD, List.getElem?_eq_getElem h]; rfl
open Classical in
set_option maxRecDepth 100000 in
set_option maxHeartbeats 4000000 in
theorem rfits_any (r : Rd) (v vr vw : Value) (ast : Option Addr) (cs : Nat) (zs : List Int) (w : World) (_hns : r.stops.length ≤ 7) (hl : zs.length ≤ 20) (hr : ListR w v zs) (hvr : ∃ ao n c, vr = .slice ao n c) (hvw : ∃ ao n c, vw = .slice ao n c) :
    Calls Tryz.prog 213 #[.agg (ground r (.slice ast r.stops.length cs) vr vw), v] w fun e w' => e = .returned (.bool (decide (∀ x ∈ zs, 0 ≤ x ∧ x ≤ (r.stops.length : Int)))) ∧ Below w.heap.size w w' := by
  obtain ⟨W, hW⟩ : ∃ W, W = w.alloc (.cells (ground r (.slice ast r.stops.length cs) vr vw) 109) := ⟨_, rfl⟩
  obtain ⟨hbW, hbox, _, _, _, _, _, k5, _, _⟩ := ground_box hW
  have HBW := hid hbW
  have HR := hid (hr.below hbW)
  obtain ⟨ao, c, rfl, _⟩ := hr
  obtain ⟨a1, n1, c1, rfl⟩ := hvr
  obtain ⟨a2, n2, c2, rfl⟩ := hvw
  have HWQ := hid hW
  clear hW hbW
  unfold ground at *
  go_enter Tryz.func213, Tryz.ntmps213
  go_wp2_with fail
  go_loopw [5] (fun i wr => ∃ k : Nat, i = .int .i64 k ∧ k ≤ zs.length ∧ Hid (∀ x ∈ zs.take k, 0 ≤ x ∧ x ≤ (r.stops.length : Int)) ∧ Hid (Below W.heap.size W wr)) (fun i _ => zs.length - (intOf i).toNat)
  case atStart => exact ⟨0, rfl, Nat.zero_le _, fun x hx => absurd hx (by simp), by show Below _ _ _; rw [HWQ.out]; exact Below.refl _ _⟩
  case round =>
    obtain ⟨k, rfl, hk, HF, HB⟩ := hrel
    have p5 : wr.cell? ⟨w.heap.size, 5, none⟩ = _ := (HB.out.cell (by exact hbox)).trans k5
    have hbw : w.heap.size < wr.heap.size := Nat.lt_of_lt_of_le hbox HB.out.size
    by_cases hlt : k < zs.length
    · obtain ⟨ao', c', hv, hz⟩ := HR.out.below HB.out
      cases hv
      obtain ⟨g, rfl, hgl, x0⟩ := hz k hlt
      have HNX : Hid (∀ x ∈ zs.take (k + 1), x ∈ zs.take k ∨ x = zs.getD k 0) := fun x hx => by
        rw [List.take_succ_eq_append_getElem hlt, List.mem_append] at hx
        rcases hx with hx | hx
        · exact .inl hx
        · exact .inr (by rw [getD_get hlt]; simpa using hx)
      have HMM : Hid (zs.getD k 0 ∈ zs) := getD_mem hlt
      generalize zs.getD k 0 = z at *
      have ik : (0 : Int) ≤ (k : Int) := by omega
      have jk : (k : Int) < (zs.length : Int) := by omega
      clear hz
      by_cases h1 : z < 0
      · have e1 : decide (z < 0) = true := by simpa using h1
        have HD : Hid (decide (∀ x ∈ zs, 0 ≤ x ∧ x ≤ (r.stops.length : Int)) = false) := by
          show _ = _
          rw [decide_eq_false_iff_not]; intro h; have := h z HMM.out; omega
        clear h1
        go_wp2_with fail
        go_quiet (fail)
        go_wp2_with fail
        go_ret
        exact ⟨ret_bool HD.out.symm, below_dn (HBW.out.trans (HB.out.mono HBW.out.size)) _⟩
      · have e1 : decide (z < 0) = false := by simpa using h1
        by_cases h2 : (r.stops.length : Int) < z
        · have e2 : decide ((r.stops.length : Int) < z) = true := by simpa using h2
          have HD : Hid (decide (∀ x ∈ zs, 0 ≤ x ∧ x ≤ (r.stops.length : Int)) = false) := by
            show _ = _
            rw [decide_eq_false_iff_not]; intro h; have := h z HMM.out; omega
          clear h1 h2
          go_wp2_with fail
          go_quiet (fail)
          go_wp2_with fail
          go_ret
          exact ⟨ret_bool HD.out.symm, below_dn (HBW.out.trans (HB.out.mono HBW.out.size)) _⟩
        · have e2 : decide ((r.stops.length : Int) < z) = false := by simpa using h2
          have HF2 : Hid (∀ x ∈ zs.take (k + 1), 0 ≤ x ∧ x ≤ (r.stops.length : Int)) := fun x hx => by
            rcases HNX.out x hx with h | h
            · exact HF.out x h
            · rw [h]; omega
          clear h1 h2
          go_wp2_with fail
          go_quiet (fail)
          go_wp2_with fail
          go_roundw
          case rel => exact ⟨k + 1, by go_num, by omega, HF2, below_dn HB.out _⟩
          case measure => simp [intOf]; omega
    · have HD : Hid (decide (∀ x ∈ zs, 0 ≤ x ∧ x ≤ (r.stops.length : Int)) = true) := by
        show _ = _
        rw [decide_eq_true_eq]; intro x hx
        have := HF.out x
        rw [List.take_of_length_le (by omega)] at this
        exact this hx
      go_wp2_with fail
      go_ret
      exact ⟨ret_bool HD.out.symm, HBW.out.trans (HB.out.mono HBW.out.size)⟩

set_option maxRecDepth 100000 in
set_option maxHeartbeats 4000000 in
theorem rsumL_any (v : Value) (zs : List Int) (w : World) (hn : zs.length ≤ 20) (hr : ListR w v zs) (hbd : ∀ z ∈ zs, -100000000 ≤ z ∧ z ≤ 100000000) :
    Calls Tryz.prog 118 #[v] w fun e w' => e = .returned (.tuple #[.int .i64 zs.sum, .bool true]) ∧ Below w.heap.size w w' := by
  obtain ⟨ao, c, rfl, hr⟩ := hr
  have HR := hid hr
  have HBD := hid hbd
  clear hr hbd
  go_enter Tryz.func118, Tryz.ntmps118
  go_wp2_with fail
  go_loopw [4, 5] (fun s i wr => ∃ k : Nat, k ≤ zs.length ∧ i = .int .i64 k ∧ s = .int .i64 (zs.take k).sum ∧ Hid (Below w.heap.size w wr)) (fun _ i _ => zs.length - (intOf i).toNat)
  case atStart => exact ⟨0, Nat.zero_le _, rfl, rfl, Below.refl _ _⟩
  case round =>
    obtain ⟨k, hk, rfl, rfl, HB⟩ := hrel
    have hsb := sum_bound (zs := zs.take k) (fun z hz => HBD.out z (List.mem_of_mem_take hz))
    have hsl : ((zs.take k).length : Int) ≤ 20 := by simp; omega
    have hsb2 : -2000000000 ≤ (zs.take k).sum ∧ (zs.take k).sum ≤ 2000000000 := by omega
    clear hsb hsl
    by_cases hlt : k < zs.length
    · obtain ⟨b, hao, hbl, hcl⟩ := HR.out k hlt
      subst hao
      have x0 : wr.cell? ⟨b, k, none⟩ = _ := (HB.out.cell (by exact hbl)).trans hcl
      have x1 : b < wr.heap.size := Nat.lt_of_lt_of_le hbl HB.out.size
      have ik : (0 : Int) ≤ (k : Int) := by omega
      have jk : (k : Int) < (zs.length : Int) := by omega
      have hf := HBD.out _ (getD_mem hlt)
      have HN := hid (take_sum hlt)
      have w1 : IntKind.i64.wrap ((zs.take k).sum + zs.getD k 0) = (zs.take k).sum + zs.getD k 0 := i64_fits _ (by omega)
      generalize zs.getD k 0 = z at *
      generalize (zs.take k).sum = S at *
      clear hcl
      go_wp2_with go_in
      go_roundw
      case rel => exact ⟨k + 1, by omega, by go_num, by rw [HN.out], by first | exact HB | exact HB.out.drew⟩
      case measure => simp [intOf]; omega
    · have HN : Hid ((zs.take k).sum = zs.sum) := by show _ = _; rw [List.take_of_length_le (by omega)]
      go_wp2_with go_in
      refine bodyPost_ret (v := .tuple #[.int .i64 (zs.take k).sum, .bool true]) (by simp [results, Tryz.results118, go_sem]) rfl ?_
      exact ⟨by rw [HN.out], HB.out⟩
end Go.Proofs.YtebinaopncclgabGreatDoor
namespace Go.Proofs.YtebinaopncclgabGreatDoor
open Go.RowKit Go.IntWalk

/- a row of numbers that begins anywhere in a block -/
def OffR (w : World) (v : Value) (n : Nat) (f : Nat → Int) : Prop :=
  ∃ ao c, v = .slice ao n c ∧ ∀ j, j < n → ∃ b o, ao = some ⟨b, o, none⟩ ∧ b < w.heap.size ∧ w.cell? ⟨b, o + j, none⟩ = some (.int .i64 (f j))
def underAt (C : Nat → Nat → Int) (u v : Nat → Int) (i j : Nat) : Prop := C i j ≠ -1 → u i + v j ≤ C i j

open Classical in
set_option maxRecDepth 100000 in
set_option maxHeartbeats 4000000 in
theorem runderE_any (vc vu vv : Value) (n : Nat) (C : Nat → Nat → Int) (u v : Nat → Int) (w : World) (hsq : SqR w vc n C) (hu : OffR w vu n u) (hv : OffR w vv n v) (hub : ∀ i, i < n → -100000000 ≤ u i ∧ u i ≤ 100000000) (hvb : ∀ i, i < n → -100000000 ≤ v i ∧ v i ≤ 100000000) :
    Calls Tryz.prog 119 #[vc, vu, vv] w fun e w' => e = .returned (.bool (decide (∀ i j, i < n → j < n → underAt C u v i j))) ∧ Below w.heap.size w w' := by
  obtain ⟨ao, c, rfl, hn, hq⟩ := hsq
  obtain ⟨au, cu, rfl, hu⟩ := hu
  obtain ⟨av, cv, rfl, hv⟩ := hv
  have HQ := hid hq
  have HU := hid hu
  have HV := hid hv
  have HUB := hid hub
  have HVB := hid hvb
  clear hq hu hv hub hvb
  go_enter Tryz.func119, Tryz.ntmps119
  go_wp2_with fail
  go_loopw [7] (fun i wr => ∃ k : Nat, k ≤ n ∧ i = .int .i64 k ∧ Hid (∀ i j, i < k → j < n → underAt C u v i j) ∧ Hid (Below w.heap.size w wr)) (fun i _ => n - (intOf i).toNat)
  case atStart => exact ⟨0, Nat.zero_le _, rfl, fun i j h => absurd h (by omega), Below.refl _ _⟩
  case round =>
    obtain ⟨k, hk, rfl, HL, HB⟩ := hrel
    by_cases hlt : k < n
    · obtain ⟨b, b', ci, hao, hbl, hcl, hbl', hrow⟩ := HQ.out k hlt
      obtain ⟨bu, ou, hau, hbu, hcu⟩ := HU.out k hlt
      subst hao
      subst hau
      have HROW := hid hrow
      have hub := HUB.out k hlt
      obtain ⟨wo, hwo⟩ : ∃ wo, wo = wr := ⟨_, rfl⟩
      rw [← hwo] at HB
      clear hrow
      go_wp2_with go_in
      rw [← hwo]
      clear hwo
      go_loopw [8] (fun i wr => ∃ j : Nat, j ≤ n ∧ i = .int .i64 j ∧ Hid (∀ q, q < j → underAt C u v k q) ∧ Hid (Below w.heap.size w wr)) (fun i _ => n - (intOf i).toNat)
      case atStart => exact ⟨0, Nat.zero_le _, rfl, fun q h => absurd h (by omega), HB⟩
      case round =>
        clear HB
        obtain ⟨j, hj, rfl, HI, HB⟩ := hrel
        have x0 : wr.cell? ⟨b, k, none⟩ = _ := (HB.out.cell (by exact hbl)).trans hcl
        have x1 : b < wr.heap.size := Nat.lt_of_lt_of_le hbl HB.out.size
        have x2 : b' < wr.heap.size := Nat.lt_of_lt_of_le hbl' HB.out.size
        have x4 : wr.cell? ⟨bu, ou + k, none⟩ = _ := (HB.out.cell (by exact hbu)).trans hcu
        have x5 : bu < wr.heap.size := Nat.lt_of_lt_of_le hbu HB.out.size
        have ik : (0 : Int) ≤ (k : Int) := by omega
        have jk : (k : Int) < (n : Int) := by omega
        by_cases hlj : j < n
        · obtain ⟨bv, ov, hav, hbv, hcv⟩ := HV.out j hlj
          have x3 : wr.cell? ⟨b', j, none⟩ = _ := (HB.out.cell (by exact hbl')).trans (HROW.out j hlj)
          subst hav
          have x6 : wr.cell? ⟨bv, ov + j, none⟩ = _ := (HB.out.cell (by exact hbv)).trans hcv
          have x7 : bv < wr.heap.size := Nat.lt_of_lt_of_le hbv HB.out.size
          have ij : (0 : Int) ≤ (j : Int) := by omega
          have jj : (j : Int) < (n : Int) := by omega
          have hvb := HVB.out j hlj
          clear hcv
          by_cases hc1 : C k j = -1
          · have c1 : (C k j != (-1 : Int)) = false := by simp [hc1]
            have HI2 : Hid (∀ q, q < j + 1 → underAt C u v k q) := fun q hq => by
              by_cases h : q = j
              · subst h; exact fun h => absurd hc1 h
              · exact HI.out q (by omega)
            clear hc1
            go_wp2_with go_in
            go_quiet (fail)
            go_wp2_with go_in
            go_roundw
            case rel => exact ⟨j + 1, by omega, by go_num, HI2, by first | exact HB | exact HB.out.drew | exact below_dn HB.out _⟩
            case measure => simp [intOf]; omega
          · have c1 : (C k j != (-1 : Int)) = true := by simpa using hc1
            have w1 : IntKind.i64.wrap (u k + v j) = u k + v j := i64_fits _ (by omega)
            by_cases hc2 : C k j < u k + v j
            · have c2 : decide (C k j < u k + v j) = true := by simpa using hc2
              have HD : Hid (decide (∀ i j, i < n → j < n → underAt C u v i j) = false) := by
                show _ = _
                rw [decide_eq_false_iff_not]; intro h; have := h k j hlt hlj hc1; omega
              clear hc1 hc2
              go_wp2_with go_in
              go_quiet (fail)
              go_wp2_with go_in
              go_ret
              exact ⟨ret_bool HD.out.symm, by first | exact HB.out | exact HB.out.drew | exact below_dn HB.out _⟩
            · have c2 : decide (C k j < u k + v j) = false := by simpa using hc2
              have HI2 : Hid (∀ q, q < j + 1 → underAt C u v k q) := fun q hq => by
                by_cases h : q = j
                · subst h; exact fun _ => by omega
                · exact HI.out q (by omega)
              clear hc1 hc2
              go_wp2_with go_in
              go_quiet (fail)
              go_wp2_with go_in
              go_roundw
              case rel => exact ⟨j + 1, by omega, by go_num, HI2, by first | exact HB | exact HB.out.drew | exact below_dn HB.out _⟩
              case measure => simp [intOf]; omega
        · have HL2 : Hid (∀ i j, i < k + 1 → j < n → underAt C u v i j) := fun i q hi hq => by
            by_cases h : i = k
            · subst h; exact HI.out q (by omega)
            · exact HL.out i q (by omega) hq
          go_wp2_with go_in
          go_roundw
          case rel => exact ⟨k + 1, by omega, by go_num, HL2, by first | exact HB | exact HB.out.drew⟩
          case measure => simp [intOf]; omega
    · have HD : Hid (decide (∀ i j, i < n → j < n → underAt C u v i j) = true) := by
        show _ = _
        rw [decide_eq_true_eq]; exact fun i j hi hj => HL.out i j (by omega) hj
      go_wp2_with go_in
      go_ret
      exact ⟨ret_bool HD.out.symm, HB.out⟩

open Classical in
set_option maxRecDepth 100000 in
set_option maxHeartbeats 4000000 in
theorem rshortE_any (vc vr : Value) (n : Nat) (C : Nat → Nat → Int) (zs : List Int) (w : World) (hn0 : 0 < n) (hl : zs.length ≤ 20) (hsq : SqR w vc n C) (hr : ListR w vr zs) :
    Calls Tryz.prog 116 #[vc, vr] w fun e w' => e = .returned (.bool (decide ((∀ i, i < zs.length → rowOk n zs i) ∧ hitsTo C zs n < zs.length))) ∧ Below w.heap.size w w' := by
  obtain ⟨ao, c, rfl, hn, hq⟩ := hsq
  obtain ⟨au, cu, rfl, hr⟩ := hr
  have HQ := hid hq
  have HR := hid hr
  clear hq hr
  go_enter Tryz.func116, Tryz.ntmps116
  go_wp2_with fail
  go_loopw [5, 6] (fun cl j wr => ∃ k : Nat, k ≤ n ∧ j = .int .i64 k ∧ cl = .int .i64 (hitsTo C zs k) ∧ Hid (0 < k → ∀ i, i < zs.length → rowOk n zs i) ∧ Hid (Below w.heap.size w wr)) (fun _ j _ => n - (intOf j).toNat)
  case atStart => exact ⟨0, Nat.zero_le _, rfl, rfl, fun h => absurd h (by omega), Below.refl _ _⟩
  case round =>
    obtain ⟨k, hk, rfl, rfl, HL, HB⟩ := hrel
    have hhl := hitsTo_le C zs k
    by_cases hlt : k < n
    · have HS := hid (hitsTo_succ C zs k)
      generalize hitsTo C zs k = hk0 at *
      obtain ⟨wo, hwo⟩ : ∃ wo, wo = wr := ⟨_, rfl⟩
      rw [← hwo] at HB
      go_wp2_with fail
      rw [← hwo]
      clear hwo
      go_loopw [7, 8] (fun hit i wr => ∃ (a h : Nat), a ≤ zs.length ∧ i = .int .i64 a ∧ hit = .int .i64 h ∧ h ≤ 1 ∧ Hid ((h = 1 ↔ ∃ i, i < a ∧ openAt C zs k i) ∧ ∀ i, i < a → rowOk n zs i) ∧ Hid (Below w.heap.size w wr)) (fun _ i _ => zs.length - (intOf i).toNat)
      case atStart => exact ⟨0, 0, Nat.zero_le _, rfl, rfl, by omega, ⟨⟨fun h => absurd h (by omega), fun ⟨i, h, _⟩ => absurd h (by omega)⟩, fun i h => absurd h (by omega)⟩, HB⟩
      case round =>
        clear HB
        obtain ⟨a, h, ha, rfl, rfl, hh1, HI, HB⟩ := hrel
        by_cases hla : a < zs.length
        · obtain ⟨g, hao, hgl, hza⟩ := HR.out a hla
          subst hao
          have HD : Hid (¬ rowOk n zs a → decide ((∀ i, i < zs.length → rowOk n zs i) ∧ hitsTo C zs n < zs.length) = false) := fun hb => by
            rw [decide_eq_false_iff_not]; intro hh; exact hb (hh.1 a hla)
          have HO : Hid (openAt C zs k a ↔ C (zs.getD a 0).toNat k ≠ -1) := Iff.rfl
          have y0 : wr.cell? ⟨g, a, none⟩ = _ := (HB.out.cell (by exact hgl)).trans hza
          have l0 : g < wr.heap.size := Nat.lt_of_lt_of_le hgl HB.out.size
          have ia : (0 : Int) ≤ (a : Int) := by omega
          have ja : (a : Int) < (zs.length : Int) := by omega
          have ik : (0 : Int) ≤ (k : Int) := by omega
          have jk : (k : Int) < (n : Int) := by omega
          have HRO : Hid (rowOk n zs a ↔ (0 ≤ zs.getD a 0 ∧ zs.getD a 0 < (n : Int) ∧ (0 < a → zs.getD (a - 1) 0 < zs.getD a 0))) := Iff.rfl
          have HP : Hid (0 < a → wr.cell? ⟨g, a - 1, none⟩ = some (.int .i64 (zs.getD (a - 1) 0))) := fun h0 => by
            obtain ⟨g', hg', hgl', hzp⟩ := HR.out (a - 1) (by omega)
            cases hg'
            exact (HB.out.cell (by exact hgl')).trans hzp
          generalize zs.getD a 0 = x at *
          generalize zs.getD (a - 1) 0 = y at *
          clear hza
          by_cases h1 : x < 0
          · have e1 : decide (x < 0) = true := by simpa using h1
            have hbad : ¬ rowOk n zs a := fun hh => by have := (HRO.out.1 hh).1; omega
            clear h1
            go_wp2_with fail
            go_quiet (fail)
            go_wp2_with fail
            go_ret
            exact ⟨ret_bool (HD.out hbad).symm, by first | exact HB.out | exact HB.out.drew | exact below_dn HB.out _⟩
          · have e1 : decide (x < 0) = false := by simpa using h1
            by_cases h2 : (n : Int) ≤ x
            · have e2 : decide ((n : Int) ≤ x) = true := by simpa using h2
              have hbad : ¬ rowOk n zs a := fun hh => by have := (HRO.out.1 hh).2.1; omega
              clear h1 h2
              go_wp2_with fail
              go_quiet (fail)
              go_wp2_with fail
              go_ret
              exact ⟨ret_bool (HD.out hbad).symm, by first | exact HB.out | exact HB.out.drew | exact below_dn HB.out _⟩
            · have e2 : decide ((n : Int) ≤ x) = false := by simpa using h2
              by_cases ha0 : a = 0
              · have e3 : decide (0 < (a : Int)) = false := by simp; omega
                have e3n : decide (0 < a) = false := by simp; omega
                have HOK : Hid (rowOk n zs a) := HRO.out.2 ⟨by omega, by omega, fun hh => absurd hh (by omega)⟩
                clear HRO HP HD ha0
                obtain ⟨m, hm⟩ : ∃ m : Nat, x = m := ⟨x.toNat, by omega⟩
                subst hm
                obtain ⟨b, b', ci, hao2, hbl, hcl, hbl', hrow⟩ := HQ.out m (by omega)
                subst hao2
                have x0 : wr.cell? ⟨b, m, none⟩ = _ := (HB.out.cell (by exact hbl)).trans hcl
                have x3 : wr.cell? ⟨b', k, none⟩ = _ := (HB.out.cell (by exact hbl')).trans (hrow k hlt)
                have l1 : b < wr.heap.size := Nat.lt_of_lt_of_le hbl HB.out.size
                have l2 : b' < wr.heap.size := Nat.lt_of_lt_of_le hbl' HB.out.size
                have im : (0 : Int) ≤ (m : Int) := by omega
                have jm : (m : Int) < (n : Int) := by omega
                have e2n : decide (n ≤ m) = false := by simp; omega
                have HO2 : Hid (openAt C zs k a ↔ C m k ≠ -1) := by show _ ↔ _; rw [HO.out]; simp
                generalize C m k = d at *
                clear hrow hcl h1 h2
                by_cases hd : d = -1
                · have c1 : (d != (-1 : Int)) = false := by simp [hd]
                  have HI2 : Hid ((h = 1 ↔ ∃ i, i < a + 1 ∧ openAt C zs k i) ∧ ∀ i, i < a + 1 → rowOk n zs i) := by
                    refine ⟨⟨fun hh => ?_, fun ⟨i, hi, ho⟩ => ?_⟩, fun i hi => ?_⟩
                    · obtain ⟨i, hi, ho⟩ := HI.out.1.1 hh; exact ⟨i, by omega, ho⟩
                    · by_cases hia : i = a
                      · subst hia; exact absurd hd (HO2.out.1 ho)
                      · exact HI.out.1.2 ⟨i, by omega, ho⟩
                    · by_cases hia : i = a
                      · subst hia; exact HOK.out
                      · exact HI.out.2 i (by omega)
                  clear hd HO2 HO
                  go_wp2_with fail
                  go_quiet (fail)
                  go_wp2_with fail
                  exact ⟨⟨a + 1, h, by omega, by go_num, rfl, hh1, HI2, below_dn HB.out _⟩, by simp [intOf]; omega⟩
                · have c1 : (d != (-1 : Int)) = true := by simpa using hd
                  have HI2 : Hid ((1 = 1 ↔ ∃ i, i < a + 1 ∧ openAt C zs k i) ∧ ∀ i, i < a + 1 → rowOk n zs i) := by
                    refine ⟨⟨fun _ => ⟨a, by omega, HO2.out.2 hd⟩, fun _ => rfl⟩, fun i hi => ?_⟩
                    by_cases hia : i = a
                    · subst hia; exact HOK.out
                    · exact HI.out.2 i (by omega)
                  clear hd HO2 HO
                  go_wp2_with fail
                  go_quiet (fail)
                  go_wp2_with fail
                  exact ⟨⟨a + 1, 1, by omega, by go_num, rfl, by omega, ⟨⟨fun _ => HI2.out.1.1 trivial, fun _ => rfl⟩, HI2.out.2⟩, below_dn HB.out _⟩, by simp [intOf]; omega⟩
              · obtain ⟨p, rfl⟩ : ∃ p, a = p + 1 := ⟨a - 1, by omega⟩
                have yp : wr.cell? ⟨g, p, none⟩ = some (.int .i64 y) := HP.out (by omega)
                have e3 : decide (0 < ((p + 1 : Nat) : Int)) = true := by first | (simp; done) | (simp; omega)
                have ip : (0 : Int) ≤ (p : Int) := by omega
                have jp : (p : Int) < (zs.length : Int) := by omega
                have hww : IntKind.i64.wrap ((p : Int) + 1 - 1) = p := by rw [show (p : Int) + 1 - 1 = p by omega]; exact i64_fits _ (by omega)
                have hww2 : IntKind.i64.wrap (p : Int) = p := i64_fits _ (by omega)
                by_cases h3 : x ≤ y
                · have e4 : decide (x ≤ y) = true := by simpa using h3
                  have hbad : ¬ rowOk n zs (p + 1) := fun hh => by have := (HRO.out.1 hh).2.2 (by omega); omega
                  clear h1 h2 h3 ha0
                  go_wp2_with fail
                  go_quiet (fail)
                  go_wp2_with fail
                  go_ret
                  exact ⟨ret_bool (HD.out hbad).symm, by first | exact HB.out | exact HB.out.drew | exact below_dn HB.out _⟩
                · have e4 : decide (x ≤ y) = false := by simpa using h3
                  have HOK : Hid (rowOk n zs (p + 1)) := HRO.out.2 ⟨by omega, by omega, fun _ => by omega⟩
                  clear HRO HP HD h3 ha0
                  obtain ⟨m, hm⟩ : ∃ m : Nat, x = m := ⟨x.toNat, by omega⟩
                  subst hm
                  obtain ⟨b, b', ci, hao2, hbl, hcl, hbl', hrow⟩ := HQ.out m (by omega)
                  subst hao2
                  have x0 : wr.cell? ⟨b, m, none⟩ = _ := (HB.out.cell (by exact hbl)).trans hcl
                  have x3 : wr.cell? ⟨b', k, none⟩ = _ := (HB.out.cell (by exact hbl')).trans (hrow k hlt)
                  have l1 : b < wr.heap.size := Nat.lt_of_lt_of_le hbl HB.out.size
                  have l2 : b' < wr.heap.size := Nat.lt_of_lt_of_le hbl' HB.out.size
                  have im : (0 : Int) ≤ (m : Int) := by omega
                  have jm : (m : Int) < (n : Int) := by omega
                  have e2n : decide (n ≤ m) = false := by simp; omega
                  have HO2 : Hid (openAt C zs k (p + 1) ↔ C m k ≠ -1) := by show _ ↔ _; rw [HO.out]; simp
                  generalize C m k = d at *
                  clear hrow hcl h1 h2
                  by_cases hd : d = -1
                  · have c1 : (d != (-1 : Int)) = false := by simp [hd]
                    have HI2 : Hid ((h = 1 ↔ ∃ i, i < (p + 1) + 1 ∧ openAt C zs k i) ∧ ∀ i, i < (p + 1) + 1 → rowOk n zs i) := by
                      refine ⟨⟨fun hh => ?_, fun ⟨i, hi, ho⟩ => ?_⟩, fun i hi => ?_⟩
                      · obtain ⟨i, hi, ho⟩ := HI.out.1.1 hh; exact ⟨i, by omega, ho⟩
                      · by_cases hia : i = (p + 1)
                        · subst hia; exact absurd hd (HO2.out.1 ho)
                        · exact HI.out.1.2 ⟨i, by omega, ho⟩
                      · by_cases hia : i = (p + 1)
                        · subst hia; exact HOK.out
                        · exact HI.out.2 i (by omega)
                    clear hd HO2 HO
                    go_wp2_with fail
                    go_quiet (fail)
                    go_wp2_with fail
                    exact ⟨⟨(p + 1) + 1, h, by omega, by go_num, rfl, hh1, HI2, below_dn HB.out _⟩, by simp [intOf]; omega⟩
                  · have c1 : (d != (-1 : Int)) = true := by simpa using hd
                    have HI2 : Hid ((1 = 1 ↔ ∃ i, i < (p + 1) + 1 ∧ openAt C zs k i) ∧ ∀ i, i < (p + 1) + 1 → rowOk n zs i) := by
                      refine ⟨⟨fun _ => ⟨(p + 1), by omega, HO2.out.2 hd⟩, fun _ => rfl⟩, fun i hi => ?_⟩
                      by_cases hia : i = (p + 1)
                      · subst hia; exact HOK.out
                      · exact HI.out.2 i (by omega)
                    clear hd HO2 HO
                    go_wp2_with fail
                    go_quiet (fail)
                    go_wp2_with fail
                    exact ⟨⟨(p + 1) + 1, 1, by omega, by go_num, rfl, by omega, ⟨⟨fun _ => HI2.out.1.1 trivial, fun _ => rfl⟩, HI2.out.2⟩, below_dn HB.out _⟩, by simp [intOf]; omega⟩
        · have HL2 : Hid (0 < k + 1 → ∀ i, i < zs.length → rowOk n zs i) := fun _ i hi => HI.out.2 i (by omega)
          have HS2 : Hid (hitsTo C zs (k + 1) = hk0 + h) := by
            show _ = _
            rw [HS.out]
            by_cases ho : ∃ i, i < zs.length ∧ openAt C zs k i
            · rw [if_pos (openAt_any.1 ho), HI.out.1.2 (by obtain ⟨i, hi, h⟩ := ho; exact ⟨i, by omega, h⟩)]
            · rw [if_neg (fun hh => ho (openAt_any.2 hh))]
              have : h ≠ 1 := fun hh => ho (by obtain ⟨i, hi, h⟩ := HI.out.1.1 hh; exact ⟨i, by omega, h⟩)
              omega
          clear HS HI
          go_wp2_with fail
          go_roundw
          case rel => exact ⟨k + 1, by omega, by go_num, by rw [HS2.out]; go_num, HL2, HB⟩
          case measure => simp [intOf]; omega
    · obtain rfl : k = n := by omega
      have HD : Hid (decide ((∀ i, i < zs.length → rowOk k zs i) ∧ hitsTo C zs k < zs.length) = decide (hitsTo C zs k < zs.length)) := by
        show _ = _
        rw [decide_eq_decide]
        exact ⟨fun hh => hh.2, fun hh => ⟨HL.out hn0, hh⟩⟩
      go_wp2_with fail
      go_ret
      exact ⟨ret_bool HD.out.symm, HB.out⟩
end Go.Proofs.YtebinaopncclgabGreatDoor
namespace Go.Proofs.YtebinaopncclgabGreatDoor

def onP : PathT → List (List Int)
  | [] => []
  | p :: P => if p.2 = true then onP P ++ [[(p.1.1 : Int), (p.1.2 : Int)]] else onP P
def offP : PathT → List (List Int)
  | [] => []
  | p :: P => if p.2 = true then offP P else offP P ++ [[(p.1.1 : Int), (p.1.2 : Int)]]
theorem on_true (a b : Nat) (P : PathT) : onP (((a, b), true) :: P) = onP P ++ [[(a : Int), (b : Int)]] := rfl
theorem on_false (a b : Nat) (P : PathT) : onP (((a, b), false) :: P) = onP P := rfl
theorem off_true (a b : Nat) (P : PathT) : offP (((a, b), true) :: P) = offP P := rfl
theorem off_false (a b : Nat) (P : PathT) : offP (((a, b), false) :: P) = offP P ++ [[(a : Int), (b : Int)]] := rfl
theorem mem_on {q : List Int} : ∀ {P : PathT}, q ∈ onP P ↔ ∃ a b : Nat, ((a, b), true) ∈ P ∧ q = [(a : Int), (b : Int)] := by
  intro P
  induction P with
  | nil => simp [onP]
  | cons p P ih =>
    obtain ⟨⟨a, b⟩, s⟩ := p
    cases s with
    | true =>
      rw [on_true, List.mem_append, ih]
      constructor
      · rintro (⟨x, y, h1, h2⟩ | h)
        · exact ⟨x, y, List.mem_cons_of_mem _ h1, h2⟩
        · exact ⟨a, b, by simp, by simpa using h⟩
      · rintro ⟨x, y, h1, h2⟩
        rcases List.mem_cons.1 h1 with e | e
        · cases e; exact .inr (by simp [h2])
        · exact .inl ⟨x, y, e, h2⟩
    | false =>
      rw [on_false, ih]
      constructor
      · rintro ⟨x, y, h1, h2⟩; exact ⟨x, y, List.mem_cons_of_mem _ h1, h2⟩
      · rintro ⟨x, y, h1, h2⟩
        rcases List.mem_cons.1 h1 with e | e
        · cases e
        · exact ⟨x, y, e, h2⟩
theorem mem_off {q : List Int} : ∀ {P : PathT}, q ∈ offP P ↔ ∃ a b : Nat, ((a, b), false) ∈ P ∧ q = [(a : Int), (b : Int)] := by
  intro P
  induction P with
  | nil => simp [offP]
  | cons p P ih =>
    obtain ⟨⟨a, b⟩, s⟩ := p
    cases s with
    | false =>
      rw [off_false, List.mem_append, ih]
      constructor
      · rintro (⟨x, y, h1, h2⟩ | h)
        · exact ⟨x, y, List.mem_cons_of_mem _ h1, h2⟩
        · exact ⟨a, b, by simp, by simpa using h⟩
      · rintro ⟨x, y, h1, h2⟩
        rcases List.mem_cons.1 h1 with e | e
        · cases e; exact .inr (by simp [h2])
        · exact .inl ⟨x, y, e, h2⟩
    | true =>
      rw [off_true, ih]
      constructor
      · rintro ⟨x, y, h1, h2⟩; exact ⟨x, y, List.mem_cons_of_mem _ h1, h2⟩
      · rintro ⟨x, y, h1, h2⟩
        rcases List.mem_cons.1 h1 with e | e
        · cases e
        · exact ⟨x, y, e, h2⟩
theorem tab_barred {n : Nat} {P : PathT} (h : PathOk n P) {a b : Nat} (h1 : tabP P a b = 2) : ((a, b), false) ∈ P := by
  induction h with
  | nil => exact absurd h1 (show (0 : Int) ≠ 2 by omega)
  | @cons a' b' t P _ _ _ h4 _ ih =>
    by_cases e : a = a' ∧ b = b'
    · rw [e.1, e.2] at h1 ⊢
      have : tabP (((a', b'), t) :: P) a' b' = if t = true then 1 else 2 := upd_at _ _ _ _
      rw [this] at h1
      cases t with
      | true => simp at h1
      | false => simp
    · have : tabP (((a', b'), t) :: P) a b = tabP P a b := upd_ne e
      rw [this] at h1
      exact List.mem_cons_of_mem _ (ih h1)
theorem on_iff {n : Nat} {P : PathT} (h : PathOk n P) {x y : Int} : [x, y] ∈ onP P ↔ 0 ≤ x ∧ 0 ≤ y ∧ tabP P x.toNat y.toNat = 1 := by
  rw [mem_on]
  constructor
  · rintro ⟨a, b, h1, h2⟩
    simp at h2
    obtain ⟨rfl, rfl⟩ := h2
    have := (tab_mem h h1).1
    exact ⟨by omega, by omega, by simpa using this⟩
  · rintro ⟨h1, h2, h3⟩
    exact ⟨x.toNat, y.toNat, tab_forced h h3, by rw [Int.toNat_of_nonneg h1, Int.toNat_of_nonneg h2]⟩
theorem off_iff {n : Nat} {P : PathT} (h : PathOk n P) {x y : Int} : [x, y] ∈ offP P ↔ 0 ≤ x ∧ 0 ≤ y ∧ tabP P x.toNat y.toNat = 2 := by
  rw [mem_off]
  constructor
  · rintro ⟨a, b, h1, h2⟩
    simp at h2
    obtain ⟨rfl, rfl⟩ := h2
    have := (tab_mem h h1).1
    exact ⟨by omega, by omega, by simpa using this⟩
  · rintro ⟨h1, h2, h3⟩
    exact ⟨x.toNat, y.toNat, tab_barred h h3, by rw [Int.toNat_of_nonneg h1, Int.toNat_of_nonneg h2]⟩
theorem on_len : ∀ (P : PathT), (onP P).length ≤ P.length ∧ (offP P).length ≤ P.length
  | [] => ⟨by simp [onP], by simp [offP]⟩
  | ((a, b), true) :: P => by
    have := on_len P
    rw [on_true, off_true]; simp; omega
  | ((a, b), false) :: P => by
    have := on_len P
    rw [on_false, off_false]; simp; omega
/- a node that is a branch holds just where its arc is on neither list -/
theorem step_branch {I : Ins} {cl : Option Int} {P : PathT} (h : PathOk I.n P) {x y : Int} : (0 ≤ x ∧ x ≤ (I.n : Int) ∧ 0 ≤ y ∧ y ≤ (I.n : Int) ∧ x ≠ y ∧ [x, y] ∉ onP P ∧ [x, y] ∉ offP P → stepW I cl P (1, [x, y]) = some (((x.toNat, y.toNat), true) :: P)) ∧ (¬ (0 ≤ x ∧ x ≤ (I.n : Int) ∧ 0 ≤ y ∧ y ≤ (I.n : Int) ∧ x ≠ y ∧ [x, y] ∉ onP P ∧ [x, y] ∉ offP P) → stepW I cl P (1, [x, y]) = none) := by
  have hr := tab_range h x.toNat y.toNat
  unfold stepW
  rw [if_pos rfl]
  constructor
  · rintro ⟨h1, h2, h3, h4, h5, h6, h7⟩
    rw [on_iff h] at h6
    rw [off_iff h] at h7
    have h0 : tabP P x.toNat y.toNat = 0 := by
      rcases hr with e | e | e
      · exact e
      · exact absurd ⟨h1, h3, e⟩ h6
      · exact absurd ⟨h1, h3, e⟩ h7
    rw [if_pos ⟨⟨h1, h2, h3, h4, h5⟩, h0⟩]; rfl
  · intro hn
    rw [if_neg]
    rintro ⟨⟨h1, h2, h3, h4, h5⟩, h6⟩
    have h6 : tabP P x.toNat y.toNat = 0 := h6
    refine hn ⟨h1, h2, h3, h4, h5, ?_, ?_⟩
    · rw [on_iff h]; rintro ⟨_, _, e⟩; omega
    · rw [off_iff h]; rintro ⟨_, _, e⟩; omega
theorem on_ok {n : Nat} {P : PathT} (h : PathOk n P) : ArcsOk n (onP P) := fun q hq => by
  obtain ⟨a, b, h1, h2⟩ := mem_on.1 hq
  have := tab_mem h h1
  exact ⟨a, b, h2, by omega, by omega, this.2.2.2⟩
theorem on_off {n : Nat} {P : PathT} (h : PathOk n P) : ∀ q ∈ onP P, q ∉ offP P := fun q hq hc => by
  obtain ⟨a, b, h1, h2⟩ := mem_on.1 hq
  subst h2
  have e1 := ((on_iff h).1 hq).2.2
  have e2 := ((off_iff h).1 hc).2.2
  omega
theorem tab_lists {n : Nat} {P : PathT} (h : PathOk n P) : tabS (onP P) (offP P) = tabP P := by
  funext a b
  have hd := on_off h
  have h1 := tab_one hd a b
  have h2 := tab_two (on := onP P) (off := offP P) a b
  rw [on_iff h] at h1
  rw [off_iff h] at h2
  simp only [Int.toNat_natCast, Int.natCast_nonneg, true_and] at h1 h2
  have h3 : tabS (onP P) (offP P) a b = 0 ∨ tabS (onP P) (offP P) a b = 1 ∨ tabS (onP P) (offP P) a b = 2 := by
    unfold tabS putT
    split
    · exact .inr (.inr rfl)
    · split
      · exact .inr (.inl rfl)
      · exact .inl rfl
  have h4 := tab_range h a b
  omega
theorem cell_lists {n : Nat} {P : PathT} (h : PathOk n P) (D : Nat → Nat → Int) (a b : Nat) : cellD (onP P) (offP P) D a b = cellS n (tabP P) D a b := by
  rw [← tab_lists h, cell_same (on_ok h) (on_off h)]
end Go.Proofs.YtebinaopncclgabGreatDoor
namespace Go.Proofs.YtebinaopncclgabGreatDoor
open Go.RowKit Go.IntWalk

theorem vans_nat {r : Rd} (h : RdOk r) : r.vans = (r.vans.toNat : Int) ∧ 1 ≤ r.vans.toNat ∧ r.vans.toNat ≤ 3 := by
  have := headOk_iff.1 h.head
  omega
/- the cells at a place of a tree -/
theorem pcells_doc (r : Rd) (P : PathT) (von voff vs vr vw : Value) (w : World) (hok : RdOk r) (hP : PathOk r.stops.length P) (hon : ArcL w von (onP P)) (hoff : ArcL w voff (offP P)) (hq : SqR w vw (r.stops.length + 1) (siteD r)) (hvs : ∃ ao c, vs = .slice ao r.stops.length c) (hvr : ∃ ao n c, vr = .slice ao n c) :
    Calls Tryz.prog 124 #[.agg (ground r vs vr vw), von, voff] w fun e w' => ∃ x, e = .returned x ∧ SqR w' x (r.stops.length + r.vans.toNat) (cellQ (insOf r (siteD r)) (tabP P)) ∧ Below w.heap.size w w' := by
  have hv := vans_nat hok
  have hns := hok.nstops
  have hd := path_depth hns hP
  have hln := on_len P
  refine (rcells_any r (siteD r) (onP P) (offP P) von voff vs vr vw r.vans.toNat (r.stops.length + r.vans.toNat) w hns hv.1 hv.2.1 hv.2.2 rfl hon hoff (by omega) (by omega) hq hvs hvr).mono ?_
  rintro e w' ⟨x, us, he, hul, hg, hb⟩
  refine ⟨x, he, ?_, hb⟩
  have h1 := hg.sq hul (by omega)
  have h2 : (fun i j => cellD (onP P) (offP P) (siteD r) (lineN r.stops.length i) (lineN r.stops.length j)) = cellQ (insOf r (siteD r)) (tabP P) := by
    funext i j
    exact cell_lists hP (siteD r) _ _
  rw [h2] at h1
  exact h1
theorem OffR.below {w w' : World} {v : Value} {n : Nat} {f : Nat → Int} (h : OffR w v n f) (hb : Below w.heap.size w w') : OffR w' v n f := by
  obtain ⟨ao, c, h1, h2⟩ := h
  refine ⟨ao, c, h1, fun j hj => ?_⟩
  obtain ⟨b, o, k1, k2, k3⟩ := h2 j hj
  exact ⟨b, o, k1, Nat.lt_of_lt_of_le k2 hb.size, (hb.cell (by exact k2)).trans k3⟩
def claimV (cl : Option Int) : Array Value := #[.bool cl.isSome, .int .i64 (cl.getD 0)]

open Classical in
set_option maxRecDepth 100000 in
set_option maxHeartbeats 4000000 in
theorem rduals_any (r : Rd) (P : PathT) (cl : Option Int) (zs : List Int) (von voff vs vr vw v : Value) (w : World) (hok : RdOk r) (hP : PathOk r.stops.length P) (hl : zs.length ≤ 20) (hbd : ∀ z ∈ zs, -100000000 ≤ z ∧ z ≤ 100000000) (hr : ListR w v zs) (hcap : ∀ ao n c, v = .slice ao n c → n ≤ c) (hon : ArcL w von (onP P)) (hoff : ArcL w voff (offP P)) (hq : SqR w vw (r.stops.length + 1) (siteD r)) (hvs : ∃ ao c, vs = .slice ao r.stops.length c) (hvr : ∃ ao n c, vr = .slice ao n c) :
    Calls Tryz.prog 214 #[.agg (ground r vs vr vw), .agg (claimV cl), von, voff, v] w fun e w' => e = .returned (.bool (decide (∃ c, cl = some c ∧ DualsZ (insOf r (siteD r)) (tabP P) c zs))) ∧ Below w.heap.size w w' := by
  have HCC : Hid (∀ W, Below w.heap.size w W → Calls Tryz.prog 124 #[.agg (ground r vs vr vw), von, voff] W fun e w' => ∃ x, e = .returned x ∧ SqR w' x (r.stops.length + r.vans.toNat) (cellQ (insOf r (siteD r)) (tabP P)) ∧ Below W.heap.size W w') := fun W hW => pcells_doc r P von voff vs vr vw W hok hP (hon.below hW) (hoff.below hW) (hq.below hW) hvs hvr
  have HDZ : Hid (∀ c, DualsZ (insOf r (siteD r)) (tabP P) c zs ↔ zs.length = 2 * (r.stops.length + r.vans.toNat) ∧ c ≤ zs.sum ∧ ∀ i j, i < r.stops.length + r.vans.toNat → j < r.stops.length + r.vans.toNat → underAt (cellQ (insOf r (siteD r)) (tabP P)) (fun i => zs.getD i 0) (fun j => zs.getD (r.stops.length + r.vans.toNat + j) 0) i j) := fun c => ⟨fun h => ⟨h.len, h.sum, h.under⟩, fun h => ⟨h.1, h.2.1, h.2.2⟩⟩
  have hv := vans_nat hok
  have hns := hok.nstops
  generalize cellQ (insOf r (siteD r)) (tabP P) = C at *
  obtain ⟨N, hN⟩ : ∃ N, N = r.stops.length + r.vans.toNat := ⟨_, rfl⟩
  rw [← hN] at HCC HDZ
  have hN1 : 1 ≤ N ∧ N ≤ 10 := by omega
  generalize hDD : DualsZ (insOf r (siteD r)) (tabP P) = DD at *
  have HR := hid hr
  have HBD := hid hbd
  obtain ⟨a1, c1, rfl⟩ := hvs
  obtain ⟨a2, n2, c2, rfl⟩ := hvr
  obtain ⟨a3, c3, rfl, _⟩ := hq
  obtain ⟨a4, c4, rfl, _⟩ := hon
  obtain ⟨a5, c5, rfl, _⟩ := hoff
  obtain ⟨a6, c6, rfl, _⟩ := hr
  have hcp := hcap _ _ _ rfl
  clear hcap hbd hok hP hN hDD hv
  unfold ground claimV at *
  cases cl with
  | none =>
    have HD : Hid (decide (∃ c, (none : Option Int) = some c ∧ DD c zs) = false) := by
      show _ = _
      rw [decide_eq_false_iff_not]; rintro ⟨c, h, _⟩; cases h
    go_enter Tryz.func214, Tryz.ntmps214
    go_wp2_with fail
    refine (HCC.out _ (below2 w _ _)).mono ?_
    rintro e2 w2 ⟨x, rfl, hsq, hb2⟩
    have hbc : w2.heap[w.heap.size + 1]? = some (.cells #[.bool false, .int .i64 0] 197 (0, 0)) := (hb2.block _ (by simp)).trans (by
      have h := heap_alloc_new (w.alloc (.cells #[.int .i64 r.vans, .int .i64 r.load, .int .i64 r.close, .int .i64 r.nodes, .int .i64 r.home, .slice a1 r.stops.length c1, .slice a2 n2 c2, .slice a3 (r.stops.length + 1) c3] 109)) (.cells #[.bool false, .int .i64 0] 197)
      rw [show (w.alloc (.cells #[.int .i64 r.vans, .int .i64 r.load, .int .i64 r.close, .int .i64 r.nodes, .int .i64 r.home, .slice a1 r.stops.length c1, .slice a2 n2 c2, .slice a3 (r.stops.length + 1) c3] 109)).heap.size = w.heap.size + 1 by simp] at h; exact h)
    have HB2 : Hid (Below w.heap.size w w2) := (below2 w _ _).trans (hb2.mono (by simp; omega))
    have HSQ := hid hsq
    obtain ⟨ax, cx, rfl, _⟩ := hsq
    have k0 : w2.cell? ⟨w.heap.size + 1, 0, none⟩ = some (.bool false) := cell_of_row w2 _ 0 _ _ _ hbc
    have k1 : w2.cell? ⟨w.heap.size + 1, 1, none⟩ = some (.int .i64 0) := cell_of_row w2 _ 1 _ _ _ hbc
    have hcl : w.heap.size + 1 < w2.heap.size := (Array.getElem?_eq_some_iff.1 hbc).1
    clear hb2 hbc HCC
    go_wp2_with fail
    go_ret
    exact ⟨ret_bool HD.out.symm, by first | exact HB2.out | exact below_dn HB2.out _⟩
  | some cc =>
    have HD : Hid (decide (∃ c, (some cc : Option Int) = some c ∧ DD c zs) = decide (DD cc zs)) := by
      show _ = _
      rw [decide_eq_decide]
      exact ⟨fun ⟨c, h, h2⟩ => by cases h; exact h2, fun h => ⟨cc, rfl, h⟩⟩
    go_enter Tryz.func214, Tryz.ntmps214
    go_wp2_with fail
    refine (HCC.out _ (below2 w _ _)).mono ?_
    rintro e2 w2 ⟨x, rfl, hsq, hb2⟩
    have hbc : w2.heap[w.heap.size + 1]? = some (.cells #[.bool true, .int .i64 cc] 197 (0, 0)) := (hb2.block _ (by simp)).trans (by
      have h := heap_alloc_new (w.alloc (.cells #[.int .i64 r.vans, .int .i64 r.load, .int .i64 r.close, .int .i64 r.nodes, .int .i64 r.home, .slice a1 r.stops.length c1, .slice a2 n2 c2, .slice a3 (r.stops.length + 1) c3] 109)) (.cells #[.bool true, .int .i64 cc] 197)
      rw [show (w.alloc (.cells #[.int .i64 r.vans, .int .i64 r.load, .int .i64 r.close, .int .i64 r.nodes, .int .i64 r.home, .slice a1 r.stops.length c1, .slice a2 n2 c2, .slice a3 (r.stops.length + 1) c3] 109)).heap.size = w.heap.size + 1 by simp] at h; exact h)
    have HB2 : Hid (Below w.heap.size w w2) := (below2 w _ _).trans (hb2.mono (by simp; omega))
    have HSQ := hid hsq
    obtain ⟨ax, cx, rfl, _⟩ := hsq
    have k0 : w2.cell? ⟨w.heap.size + 1, 0, none⟩ = some (.bool true) := cell_of_row w2 _ 0 _ _ _ hbc
    have k1 : w2.cell? ⟨w.heap.size + 1, 1, none⟩ = some (.int .i64 cc) := cell_of_row w2 _ 1 _ _ _ hbc
    have hcl : w.heap.size + 1 < w2.heap.size := (Array.getElem?_eq_some_iff.1 hbc).1
    clear hb2 hbc HCC
    by_cases hlen : zs.length = 2 * N
    · obtain ⟨ao', c', hv', hz'⟩ := HR.out
      cases hv'
      obtain ⟨g, rfl, hgl, _⟩ := hz' 0 (by omega)
      have HDE : Hid (decide (∃ c, (some cc : Option Int) = some c ∧ DD c zs) = (decide (∀ i j, i < N → j < N → underAt C (fun i => zs.getD i 0) (fun j => zs.getD (N + j) 0) i j) && decide (cc ≤ zs.sum))) := by
        show _ = _
        rw [HD.out, Bool.eq_iff_iff, Bool.and_eq_true, decide_eq_true_eq, decide_eq_true_eq, decide_eq_true_eq, HDZ.out cc]
        exact ⟨fun h => ⟨h.2.2, h.2.1⟩, fun h => ⟨hlen, h.2, h.1⟩⟩
      have hbz : ∀ j, -100000000 ≤ zs.getD j 0 ∧ zs.getD j 0 ≤ 100000000 := fun j => by
        by_cases h : j < zs.length
        · exact HBD.out _ (getD_mem h)
        · rw [List.getD_eq_getElem?_getD, List.getElem?_eq_none (by omega)]; exact ⟨by decide, by decide⟩
      have hsub : zs.length - N = N := by omega
      have HCU : Hid (∀ W, Below w2.heap.size w2 W → Calls Tryz.prog 119 #[.slice ax N cx, .slice (some ⟨g, 0, none⟩) N c6, .slice (some ⟨g, N, none⟩) (zs.length - N) (c6 - N)] W fun e w' => e = .returned (.bool (decide (∀ i j, i < N → j < N → underAt C (fun i => zs.getD i 0) (fun j => zs.getD (N + j) 0) i j))) ∧ w'.cell? ⟨w.heap.size + 1, 1, none⟩ = some (.int .i64 cc) ∧ Hid (Below w.heap.size w w') ∧ Hid (w2.heap.size ≤ w'.heap.size)) := fun W hW => by
        rw [hsub]
        have hWW : Below w.heap.size w W := HB2.out.trans (hW.mono HB2.out.size)
        refine (runderE_any _ _ _ N C (fun i => zs.getD i 0) (fun j => zs.getD (N + j) 0) W (HSQ.out.below hW) ⟨_, _, rfl, fun j hj => ?_⟩ ⟨_, _, rfl, fun j hj => ?_⟩ (fun i _ => hbz i) (fun i _ => hbz _)).mono ?_
        · obtain ⟨g', e', h1, h2⟩ := hz' j (by omega)
          cases e'
          exact ⟨g, 0, rfl, Nat.lt_of_lt_of_le h1 hWW.size, by rw [Nat.zero_add]; exact (hWW.cell (by exact h1)).trans h2⟩
        · obtain ⟨g', e', h1, h2⟩ := hz' (N + j) (by omega)
          cases e'
          exact ⟨g, N, rfl, Nat.lt_of_lt_of_le h1 hWW.size, (hWW.cell (by exact h1)).trans h2⟩
        · rintro e w' ⟨h1, h2⟩
          have h3 : Below w2.heap.size w2 w' := hW.trans (h2.mono hW.size)
          exact ⟨h1, (h3.cell (by exact hcl)).trans k1, HB2.out.trans (h3.mono HB2.out.size), h3.size⟩
      have HSU : Hid (∀ W, Below w.heap.size w W → Calls Tryz.prog 118 #[.slice (some ⟨g, 0, none⟩) zs.length c6] W fun e w' => e = .returned (.tuple #[.int .i64 zs.sum, .bool true]) ∧ Below W.heap.size W w') := fun W hW => rsumL_any _ zs W hl (HR.out.below hW) HBD.out
      generalize decide (∀ i j, i < N → j < N → underAt C (fun i => zs.getD i 0) (fun j => zs.getD (N + j) 0) i j) = bu at *
      have b1 : ((zs.length : Int) != (N : Int) + (N : Int)) = false := by simp; omega
      have i1 : (0 : Int) ≤ (N : Int) := by omega
      have j1 : (N : Int) ≤ (c6 : Int) := by omega
      have j2 : (N : Int) ≤ (zs.length : Int) := by omega
      have j3 : (zs.length : Int) ≤ (c6 : Int) := by omega
      have j4 : ¬ (c6 = N) := by omega
      clear hlen hz' hbz hsub HD HDZ
      go_wp2_with fail
      go_region_held3 (fun w' => w'.cell? ⟨w.heap.size + 1, 1, none⟩ = some (.int .i64 cc)) (go_keep) (first | (go_at_call 119; refine (HCU.out _ (by first | exact Below.refl _ _ | exact (Below.refl _ _).drew)).mono ?_; rintro e3 w3 ⟨rfl, kk, HB3, HZ3⟩))
      have HW3 := hid HB3.out
      clear HB3 HCU
      have hcl3 : w.heap.size + 1 < w3.heap.size := Nat.lt_of_lt_of_le hcl (by have := HZ3.out; exact this)
      go_wp2_with fail
      refine (HSU.out _ (by first | exact HW3.out | exact HW3.out.drew)).mono ?_
      rintro e4 w4 ⟨rfl, hb4⟩
      have k4 : w4.cell? ⟨w.heap.size + 1, 1, none⟩ = some (.int .i64 cc) := (hb4.cell (by exact hcl3)).trans (by first | exact kk | exact kk)
      have HW4 : Hid (Below w.heap.size w w4) := by first | exact HW3.out.trans (hb4.mono HW3.out.size) | exact HW3.out.drew.trans (hb4.mono HW3.out.size)
      clear hb4 HSU kk
      cases bu
      · go_wp2_with fail
        go_ret
        exact ⟨ret_bool HDE.out.symm, by first | exact HW4.out | exact below_dn HW4.out _⟩
      · go_wp2_with fail
        go_ret
        exact ⟨ret_bool (by rw [HDE.out]; rfl), by first | exact HW4.out | exact below_dn HW4.out _⟩
    · have hbf : decide (∃ c, (some cc : Option Int) = some c ∧ DD c zs) = false := by
        rw [HD.out, decide_eq_false_iff_not]; exact fun h => hlen ((HDZ.out cc).1 h).1
      have HBF := hid hbf
      have b1 : ((zs.length : Int) != (N : Int) + (N : Int)) = true := by simp; omega
      clear hbf hlen HD
      go_wp2_with fail
      go_ret
      exact ⟨ret_bool HBF.out.symm, by first | exact HB2.out | exact below_dn HB2.out _⟩
end Go.Proofs.YtebinaopncclgabGreatDoor
namespace Go.Proofs.YtebinaopncclgabGreatDoor
open Go.RowKit Go.IntWalk

def pairOk (on : List (List Int)) (zs : List Int) (i : Nat) : Prop := [zs.getD i 0, zs.getD (i + 1) 0] ∈ on ∧ (i + 2 < zs.length → zs.getD (i + 1) 0 ≠ 0)
def chOk (n : Nat) (on : List (List Int)) (zs : List Int) : Prop := (∀ x ∈ zs, 0 ≤ x ∧ x ≤ (n : Int)) ∧ ∀ i, i + 1 < zs.length → pairOk on zs i

open Classical in
set_option maxRecDepth 100000 in
set_option maxHeartbeats 4000000 in
theorem rchained_any (r : Rd) (on : List (List Int)) (von v vr vw : Value) (ast : Option Addr) (cs : Nat) (zs : List Int) (w : World) (hns : r.stops.length ≤ 7) (hl : zs.length ≤ 20) (hr : ListR w v zs) (hon : ArcL w von on) (hno : on.length ≤ 4000000) (hvr : ∃ ao n c, vr = .slice ao n c) (hvw : ∃ ao n c, vw = .slice ao n c) :
    Calls Tryz.prog 215 #[.agg (ground r (.slice ast r.stops.length cs) vr vw), von, v] w fun e w' => e = .returned (.bool (decide (chOk r.stops.length on zs))) ∧ Below w.heap.size w w' := by
  have HFI : Hid (∀ W, Below w.heap.size w W → Calls Tryz.prog 213 #[.agg (ground r (.slice ast r.stops.length cs) vr vw), v] W fun e w' => e = .returned (.bool (decide (∀ x ∈ zs, 0 ≤ x ∧ x ≤ (r.stops.length : Int)))) ∧ Below W.heap.size W w') := fun W hW => rfits_any r v vr vw ast cs zs W hns hl (hr.below hW) hvr hvw
  have HHE : Hid (∀ (a b : Int) W, Below w.heap.size w W → Calls Tryz.prog 123 #[von, .int .i64 a, .int .i64 b] W fun e w' => e = .returned (.bool (decide ([a, b] ∈ on))) ∧ Below W.heap.size W w') := fun a b W hW => held_any on von a b W (hon.below hW) hno
  have HR := hid hr
  obtain ⟨a1, n1, c1, rfl⟩ := hvr
  obtain ⟨a2, n2, c2, rfl⟩ := hvw
  obtain ⟨a4, c4, rfl, _⟩ := hon
  obtain ⟨a6, c6, rfl, _⟩ := hr
  generalize hff : decide (∀ x ∈ zs, 0 ≤ x ∧ x ≤ (r.stops.length : Int)) = bf at *
  have HFF : Hid (bf = true ↔ ∀ x ∈ zs, 0 ≤ x ∧ x ≤ (r.stops.length : Int)) := by show _ ↔ _; rw [← hff, decide_eq_true_eq]
  clear hff
  unfold ground at *
  go_enter Tryz.func215, Tryz.ntmps215
  go_wp2_with fail
  refine (HFI.out _ (below1 w _)).mono ?_
  rintro e1 w1 ⟨rfl, hb1⟩
  have HB1 : Hid (Below w.heap.size w w1) := (below1 w _).trans (hb1.mono (by simp))
  clear hb1 HFI
  go_wp2_with fail
  go_loopw [7, 8] (fun ok i wr => ∃ (k : Nat) (b : Bool), i = .int .i64 k ∧ ok = .bool b ∧ k ≤ zs.length ∧ Hid (b = true ↔ (∀ x ∈ zs, 0 ≤ x ∧ x ≤ (r.stops.length : Int)) ∧ ∀ i, i + 1 < k → pairOk on zs i) ∧ Hid (Below w.heap.size w wr)) (fun _ i _ => zs.length - (intOf i).toNat)
  case atStart => exact ⟨0, bf, rfl, rfl, Nat.zero_le _, ⟨fun h => ⟨HFF.out.1 h, fun i hi => absurd hi (by omega)⟩, fun h => HFF.out.2 h.1⟩, HB1⟩
  case round =>
    obtain ⟨k, b, rfl, rfl, hk, HI, HB⟩ := hrel
    by_cases hlt : k < zs.length
    · cases b with
      | false =>
        have HD : Hid (decide (chOk r.stops.length on zs) = false) := by
          show _ = _
          rw [decide_eq_false_iff_not]; intro h
          have := HI.out.2 ⟨h.1, fun i hi => h.2 i (by omega)⟩
          cases this
        go_wp2_with fail
        go_ret
        exact ⟨ret_bool HD.out.symm, by first | exact HB.out | exact below_dn HB.out _⟩
      | true =>
        by_cases hk0 : k = 0
        · have b0 : decide (0 < (k : Int)) = false := by simp; omega
          have b0n : decide (0 < k) = false := by simp; omega
          have HI2 : Hid (true = true ↔ (∀ x ∈ zs, 0 ≤ x ∧ x ≤ (r.stops.length : Int)) ∧ ∀ i, i + 1 < k + 1 → pairOk on zs i) := ⟨fun h => ⟨(HI.out.1 h).1, fun i hi => absurd hi (by omega)⟩, fun _ => rfl⟩
          clear hk0
          go_wp2_with fail
          go_roundw
          case rel => exact ⟨k + 1, true, by go_num, rfl, by omega, HI2, by first | exact HB | exact below_dn HB.out _⟩
          case measure => simp [intOf]; omega
        · obtain ⟨p, rfl⟩ : ∃ p, k = p + 1 := ⟨k - 1, by omega⟩
          obtain ⟨g, rfl, hgl, x1⟩ := (by obtain ⟨ao', c', hv', h⟩ := HR.out; cases hv'; exact h (p + 1) hlt : ∃ g, a6 = some ⟨g, 0, none⟩ ∧ g < w.heap.size ∧ w.cell? ⟨g, p + 1, none⟩ = some (.int .i64 (zs.getD (p + 1) 0)))
          have x0 : w.cell? ⟨g, p, none⟩ = some (.int .i64 (zs.getD p 0)) := by
            obtain ⟨ao', c', hv', h⟩ := HR.out
            cases hv'
            obtain ⟨g', e', _, h2⟩ := h p (by omega)
            cases e'; exact h2
          have HPO : Hid (pairOk on zs p ↔ [zs.getD p 0, zs.getD (p + 1) 0] ∈ on ∧ (p + 2 < zs.length → zs.getD (p + 1) 0 ≠ 0)) := Iff.rfl
          have y0 : wr.cell? ⟨g, p, none⟩ = _ := (HB.out.cell (by exact hgl)).trans x0
          have y1 : wr.cell? ⟨g, p + 1, none⟩ = _ := (HB.out.cell (by exact hgl)).trans x1
          have l0 : g < wr.heap.size := Nat.lt_of_lt_of_le hgl HB.out.size
          generalize zs.getD p 0 = x at *
          generalize zs.getD (p + 1) 0 = y at *
          have HCH : Hid (∀ W, Below wr.heap.size wr W → Calls Tryz.prog 123 #[.slice a4 on.length c4, .int .i64 x, .int .i64 y] W fun e w' => e = .returned (.bool (decide ([x, y] ∈ on))) ∧ w'.cell? ⟨g, p, none⟩ = some (.int .i64 x) ∧ w'.cell? ⟨g, p + 1, none⟩ = some (.int .i64 y) ∧ Hid (Below w.heap.size w w' ∧ g < w'.heap.size)) := fun W hW => by
            have hWW : Below w.heap.size w W := HB.out.trans (hW.mono HB.out.size)
            refine (HHE.out x y W hWW).mono ?_
            rintro e w' ⟨h1, h2⟩
            have h3 : Below wr.heap.size wr w' := hW.trans (h2.mono hW.size)
            exact ⟨h1, (h3.cell (by exact l0)).trans y0, (h3.cell (by exact l0)).trans y1, HB.out.trans (h3.mono HB.out.size), Nat.lt_of_lt_of_le l0 h3.size⟩
          generalize hhd : decide ([x, y] ∈ on) = hd at *
          have HHD : Hid (hd = true ↔ [x, y] ∈ on) := by show _ ↔ _; rw [← hhd, decide_eq_true_eq]
          have ip : (0 : Int) ≤ (p : Int) := by omega
          have jp : (p : Int) < (zs.length : Int) := by omega
          have jp1 : (p : Int) + 1 < (zs.length : Int) := by omega
          have ip1 : (0 : Int) ≤ (p : Int) + 1 := by omega
          have hww : IntKind.i64.wrap ((p : Int) + 1 - 1) = p := by rw [show (p : Int) + 1 - 1 = p by omega]; exact i64_fits _ (by omega)
          have hww2 : IntKind.i64.wrap (p : Int) = p := i64_fits _ (by omega)
          have HW1 : Hid (∀ x ∈ zs, 0 ≤ x ∧ x ≤ (r.stops.length : Int)) := (HI.out.1 rfl).1
          have HW2 : Hid (∀ i, i + 1 < p + 1 → pairOk on zs i) := (HI.out.1 rfl).2
          have HNX : Hid (∀ nb : Bool, (nb = true ↔ pairOk on zs p) → (nb = true ↔ (∀ x ∈ zs, 0 ≤ x ∧ x ≤ (r.stops.length : Int)) ∧ ∀ i, i + 1 < p + 1 + 1 → pairOk on zs i)) := fun nb h => ⟨fun hh => ⟨HW1.out, fun i hi => by
              by_cases e : i = p
              · subst e; exact h.1 hh
              · exact HW2.out i (by omega)⟩, fun hh => h.2 (hh.2 p (by omega))⟩
          clear x0 x1 hk0 hhd
          by_cases h2 : p + 2 < zs.length
          · have e1 : decide ((p : Int) + 1 + 1 < (zs.length : Int)) = true := by simp; omega
            have e1n : decide (p + 1 + 1 < zs.length) = true := by simp; omega
            by_cases hy : y = 0
            · have e2 : (y == 0) = true := by simpa using hy
              have HN2 := hid (HNX.out false ⟨fun h => (by cases h), fun h => absurd hy ((HPO.out.1 h).2 h2)⟩)
              clear hy h2
              go_wp2_with fail
              go_region_held3 (fun w' => w'.cell? ⟨g, p, none⟩ = some (.int .i64 x) ∧ w'.cell? ⟨g, p + 1, none⟩ = some (.int .i64 y)) (go_keep) (first | (go_at_call 123; refine (HCH.out _ (by first | exact Below.refl _ _ | exact (Below.refl _ _).drew)).mono ?_; rintro e3 w3 ⟨rfl, z0, z1, HF3⟩))
              have l3 := HF3.out.2
              have HB3 := hid HF3.out.1
              clear HCH HF3 y0 y1 HB
              go_wp2_with fail
              exact ⟨⟨p + 1 + 1, false, by go_num, rfl, by omega, HN2, HB3⟩, by simp [intOf]; omega⟩
            · have e2 : (y == 0) = false := by simpa using hy
              have HN2 := hid (HNX.out hd ⟨fun h => HPO.out.2 ⟨HHD.out.1 h, fun _ => hy⟩, fun h => HHD.out.2 (HPO.out.1 h).1⟩)
              clear hy h2
              go_wp2_with fail
              go_region_held3 (fun w' => w'.cell? ⟨g, p, none⟩ = some (.int .i64 x) ∧ w'.cell? ⟨g, p + 1, none⟩ = some (.int .i64 y)) (go_keep) (first | (go_at_call 123; refine (HCH.out _ (by first | exact Below.refl _ _ | exact (Below.refl _ _).drew)).mono ?_; rintro e3 w3 ⟨rfl, z0, z1, HF3⟩))
              have l3 := HF3.out.2
              have HB3 := hid HF3.out.1
              clear HCH HF3 y0 y1 HB
              go_wp2_with fail
              exact ⟨⟨p + 1 + 1, hd, by go_num, rfl, by omega, HN2, HB3⟩, by simp [intOf]; omega⟩
          · have e1 : decide ((p : Int) + 1 + 1 < (zs.length : Int)) = false := by simp; omega
            have e1n : decide (p + 1 + 1 < zs.length) = false := by simp; omega
            have HN2 := hid (HNX.out hd ⟨fun h => HPO.out.2 ⟨HHD.out.1 h, fun h3 => absurd h3 h2⟩, fun h => HHD.out.2 (HPO.out.1 h).1⟩)
            clear h2
            go_wp2_with fail
            go_region_held3 (fun w' => w'.cell? ⟨g, p, none⟩ = some (.int .i64 x) ∧ w'.cell? ⟨g, p + 1, none⟩ = some (.int .i64 y)) (go_keep) (first | (go_at_call 123; refine (HCH.out _ (by first | exact Below.refl _ _ | exact (Below.refl _ _).drew)).mono ?_; rintro e3 w3 ⟨rfl, z0, z1, HF3⟩))
            have l3 := HF3.out.2
            have HB3 := hid HF3.out.1
            clear HCH HF3 y0 y1 HB
            go_wp2_with fail
            exact ⟨⟨p + 1 + 1, hd, by go_num, rfl, by omega, HN2, HB3⟩, by simp [intOf]; omega⟩
    · have HD : Hid (decide (chOk r.stops.length on zs) = b) := by
        show _ = _
        rw [Bool.eq_iff_iff, decide_eq_true_eq]
        exact ⟨fun h => HI.out.2 ⟨h.1, fun i hi => h.2 i (by omega)⟩, fun h => ⟨(HI.out.1 h).1, fun i hi => (HI.out.1 h).2 i (by omega)⟩⟩
      go_wp2_with fail
      go_ret
      exact ⟨ret_bool HD.out.symm, by first | exact HB.out | exact below_dn HB.out _⟩
end Go.Proofs.YtebinaopncclgabGreatDoor
namespace Go.Proofs.YtebinaopncclgabGreatDoor
open Go.RowKit Go.IntWalk

theorem length_way {D : Nat → Nat → Int} {n : Nat} {l : List Int} (hD : ∀ a b, a < n + 1 → b < n + 1 → -1 ≤ D a b ∧ D a b ≤ 40960000) (hx : ∀ x ∈ l, 0 ≤ x ∧ x < (n : Int) + 1) : lengthS D l = -1 ↔ wayOk D l = false := by
  unfold lengthS
  cases h : wayOk D l with
  | false => simp
  | true =>
    rw [if_pos rfl]
    have h0 : ∀ q, q ≤ l.length - 1 → 0 ≤ rtTo D l q := by
      intro q
      induction q with
      | zero => intro _; simp [rtTo]
      | succ q ih =>
        intro hq
        have h1 := ih (by omega)
        rw [rtTo_succ]
        unfold wayOk at h
        have h2 := of_decide_eq_true (List.all_eq_true.1 h q (List.mem_range.2 (by omega)))
        have s1 := getD_site hx (show q < l.length by omega)
        have s2 := getD_site hx (show q + 1 < l.length by omega)
        have h3 := hD (l.getD q 0).toNat (l.getD (q + 1) 0).toNat (by omega) (by omega)
        have h4 : legD D l q = D (l.getD q 0).toNat (l.getD (q + 1) 0).toNat := rfl
        omega
    have := h0 (l.length - 1) (Nat.le_refl _)
    simp; omega

open Classical in
set_option maxRecDepth 100000 in
set_option maxHeartbeats 4000000 in
theorem rhopeless_any (r : Rd) (vs vr vw : Value) (gi ci : Nat) (zs : List Int) (w : World) (hok : RdOk r) (hs : StR w vs r) (hq : SqR w vw (r.stops.length + 1) (siteD r)) (hl : zs.length ≤ 20) (hne : 0 < zs.length) (hgi : gi < w.heap.size) (hrow : ∀ j (hj : j < zs.length), w.cell? ⟨gi, j, none⟩ = some (.int .i64 zs[j])) (hx : ∀ x ∈ zs, 0 ≤ x ∧ x < (r.stops.length : Int) + 1) (hvr : ∃ ao n c, vr = .slice ao n c) :
    Calls Tryz.prog 216 #[.agg (ground r vs vr vw), .slice (some ⟨gi, 0, none⟩) zs.length ci] w fun e w' => e = .returned (.bool (decide (BlockedQ (insOf r (siteD r)) (zs.map Int.toNat)))) ∧ Below w.heap.size w w' := by
  have HW : Hid (∀ W, Below w.heap.size w W → Calls Tryz.prog 173 #[.agg (ground r vs vr vw), .slice (some ⟨gi, 0, none⟩) zs.length ci] W fun e w' => e = .returned (.int .i64 (wantTo r zs)) ∧ Below W.heap.size W w') := fun W hW => by
    obtain ⟨a2, c2, hvw, _⟩ := hq
    exact wants_any r zs vs vr vw gi ci W hok (hs.below hW) (Nat.lt_of_lt_of_le hgi hW.size) (fun j hj => (hW.cell (by exact hgi)).trans (hrow j hj)) (by omega) hx hvr ⟨_, _, _, hvw⟩
  have HL : Hid (∀ W, Below w.heap.size w W → Calls Tryz.prog 109 #[.agg (ground r vs vr vw), .slice (some ⟨gi, 0, none⟩) zs.length ci] W fun e w' => e = .returned (.int .i64 (lengthS (siteD r) zs)) ∧ Below W.heap.size W w') := fun W hW => by
    obtain ⟨a2, c2, hvs, _⟩ := hs
    exact rlength_any r (siteD r) zs vs vr vw gi ci W (hq.below hW) (site_range hok) (Nat.lt_of_lt_of_le hgi hW.size) (fun j hj => (hW.cell (by exact hgi)).trans (hrow j hj)) (by omega) hx ⟨_, _, _, hvs⟩ hvr
  have HBG : Hid (∀ W, Below w.heap.size w W → Calls Tryz.prog 110 #[.agg (ground r vs vr vw), .slice (some ⟨gi, 0, none⟩) zs.length ci, .int .i64 ((zs.length - 1 : Nat) : Int)] W fun e w' => e = .returned (.tuple #[.int .i64 (begN r (siteD r) zs (zs.length - 1)).1, .bool (begN r (siteD r) zs (zs.length - 1)).2]) ∧ Below W.heap.size W w') := fun W hW => begunN_any r (siteD r) zs vs vr vw gi ci w hok hs hq (site_range hok) hgi hrow (by omega) hx hvr (zs.length - 1) (by omega) W hW
  have HBL : Hid (BlockedQ (insOf r (siteD r)) (zs.map Int.toNat) ↔ ((∃ i k, i < zs.length ∧ k < i ∧ twiceP zs i k) ∨ loadOk r zs = false ∨ wayOk (siteD r) zs = false ∨ (timeN r (siteD r) zs []).isSome = false)) := blocked_iff (fun x hx' => (hx x hx').1) []
  have HLT := hid (begN_late (r := r) (D := siteD r) [] hok hx hne)
  have HLD : Hid (loadOk r zs = decide (wantTo r zs ≤ r.load)) := rfl
  have HWY : Hid ((lengthS (siteD r) zs = -1 ↔ wayOk (siteD r) zs = false)) := length_way (site_range hok) hx
  have HROW : Hid (∀ j, j < zs.length → w.cell? ⟨gi, j, none⟩ = some (.int .i64 (zs.getD j 0))) := fun j hj => by rw [getD_get hj]; exact hrow j hj
  have HTP : Hid (∀ i k, twiceP zs i k ↔ zs.getD i 0 = zs.getD k 0 ∧ zs.getD i 0 ≠ 0) := fun i k => Iff.rfl
  have HX : Hid (∀ i, i < zs.length → 0 ≤ zs.getD i 0) := fun i hi => (hx _ (getD_mem hi)).1
  have hLW := headOk_iff.1 hok.head
  obtain ⟨W, hW⟩ : ∃ W, W = w.alloc (.cells (ground r vs vr vw) 109) := ⟨_, rfl⟩
  obtain ⟨hbW, hbox, k0, k1, k2, k3, k4, k5, k6, k7⟩ := ground_box hW
  have HBW := hid hbW
  have HWQ := hid hW
  obtain ⟨a1, n1, c1, rfl⟩ := hvr
  obtain ⟨a2, c2, rfl, _⟩ := hq
  obtain ⟨a3, c3, rfl, _⟩ := hs
  generalize wantTo r zs = wt at *
  generalize lengthS (siteD r) zs = ln at *
  generalize begN r (siteD r) zs (zs.length - 1) = bg at *
  obtain ⟨bt, bl⟩ := bg
  dsimp only at HBG HLT
  have HBK : Hid (∀ b : Bool, (b = true ↔ ((∃ i k, i < zs.length ∧ k < i ∧ twiceP zs i k) ∨ r.load < wt ∨ ln = -1 ∨ bl = true)) → b = decide (BlockedQ (insOf r (siteD r)) (zs.map Int.toNat))) := fun b h => by
    rw [Bool.eq_iff_iff, h, decide_eq_true_eq, HBL.out, HLD.out, HLT.out, HWY.out, decide_eq_false_iff_not]
    constructor
    · rintro (h | h | h | h)
      · exact .inl h
      · exact .inr (.inl (by omega))
      · exact .inr (.inr (.inl h))
      · exact .inr (.inr (.inr (by rw [h]; rfl)))
    · rintro (h | h | h | h)
      · exact .inl h
      · exact .inr (.inl (by omega))
      · exact .inr (.inr (.inl h))
      · exact .inr (.inr (.inr (by simpa using h)))
  clear hW hbW hrow hx hok HBL HLT HLD HWY
  unfold ground at *
  go_enter Tryz.func216, Tryz.ntmps216
  go_wp2_with fail
  go_loopw [5] (fun i wr => ∃ k : Nat, i = .int .i64 k ∧ k ≤ zs.length ∧ Hid (∀ i q, i < k → q < i → ¬ twiceP zs i q) ∧ Hid (Below W.heap.size W wr)) (fun i _ => zs.length - (intOf i).toNat)
  case atStart => exact ⟨0, rfl, Nat.zero_le _, fun i q h => absurd h (by omega), by show Below _ _ _; rw [HWQ.out]; exact Below.refl _ _⟩
  case round =>
    obtain ⟨k, rfl, hk, HN, HB⟩ := hrel
    by_cases hlt : k < zs.length
    · obtain ⟨wo, hwo⟩ : ∃ wo, wo = wr := ⟨_, rfl⟩
      rw [← hwo] at HB
      go_wp2_with fail
      rw [← hwo]
      clear hwo
      go_loopw [6] (fun j wr => ∃ m : Nat, j = .int .i64 m ∧ m ≤ k ∧ Hid (∀ q, q < m → ¬ twiceP zs k q) ∧ Hid (Below W.heap.size W wr)) (fun j _ => k - (intOf j).toNat)
      case atStart => exact ⟨0, rfl, Nat.zero_le _, fun q h => absurd h (by omega), HB⟩
      case round =>
        clear HB
        obtain ⟨m, rfl, hm, HI, HB⟩ := hrel
        by_cases hlm : m < k
        · have x0 : wr.cell? ⟨gi, k, none⟩ = _ := (HB.out.cell (by exact Nat.lt_of_lt_of_le hgi HBW.out.size)).trans ((HBW.out.cell (by exact hgi)).trans (HROW.out k hlt))
          have x1 : wr.cell? ⟨gi, m, none⟩ = _ := (HB.out.cell (by exact Nat.lt_of_lt_of_le hgi HBW.out.size)).trans ((HBW.out.cell (by exact hgi)).trans (HROW.out m (by omega)))
          have l0 : gi < wr.heap.size := Nat.lt_of_lt_of_le (Nat.lt_of_lt_of_le hgi HBW.out.size) HB.out.size
          have HT := hid (HTP.out k m)
          have hx0 := HX.out k hlt
          generalize zs.getD k 0 = x at *
          generalize zs.getD m 0 = y at *
          have ik : (0 : Int) ≤ (k : Int) := by omega
          have jk : (k : Int) < (zs.length : Int) := by omega
          have im : (0 : Int) ≤ (m : Int) := by omega
          have jm : (m : Int) < (zs.length : Int) := by omega
          by_cases h1 : x = y
          · have e1 : (x == y) = true := by simpa using h1
            by_cases h2 : 0 < x
            · have e2 : decide (0 < x) = true := by simpa using h2
              have HD := hid (HBK.out true ⟨fun _ => .inl ⟨k, m, hlt, hlm, HT.out.2 ⟨h1, by omega⟩⟩, fun _ => rfl⟩)
              clear h1 h2
              go_wp2_with fail
              go_quiet (fail)
              go_wp2_with fail
              go_ret
              exact ⟨ret_bool HD.out, below_dn (HBW.out.trans (HB.out.mono HBW.out.size)) _⟩
            · have e2 : decide (0 < x) = false := by simpa using h2
              have HI2 : Hid (∀ q, q < m + 1 → ¬ twiceP zs k q) := fun q hq => by
                by_cases e : q = m
                · subst e; exact fun h => by have := (HT.out.1 h).2; omega
                · exact HI.out q (by omega)
              clear h1 h2
              go_wp2_with fail
              go_quiet (fail)
              go_wp2_with fail
              go_roundw
              case rel => exact ⟨m + 1, by go_num, by omega, HI2, below_dn HB.out _⟩
              case measure => simp [intOf]; omega
          · have e1 : (x == y) = false := by simpa using h1
            have HI2 : Hid (∀ q, q < m + 1 → ¬ twiceP zs k q) := fun q hq => by
              by_cases e : q = m
              · subst e; exact fun h => h1 (HT.out.1 h).1
              · exact HI.out q (by omega)
            clear h1
            go_wp2_with fail
            go_quiet (fail)
            go_wp2_with fail
            go_roundw
            case rel => exact ⟨m + 1, by go_num, by omega, HI2, below_dn HB.out _⟩
            case measure => simp [intOf]; omega
        · have HN2 : Hid (∀ i q, i < k + 1 → q < i → ¬ twiceP zs i q) := fun i q hi hq => by
            by_cases e : i = k
            · subst e; exact HI.out q (by omega)
            · exact HN.out i q (by omega) hq
          go_wp2_with fail
          go_roundw
          case rel => exact ⟨k + 1, by go_num, by omega, HN2, HB⟩
          case measure => simp [intOf]; omega
    · have HNT : Hid (¬ ∃ i k, i < zs.length ∧ k < i ∧ twiceP zs i k) := fun ⟨i, q, h1, h2, h3⟩ => HN.out i q (by omega) h2 h3
      have p0 : wr.cell? ⟨w.heap.size, 0, none⟩ = _ := (HB.out.cell (by exact hbox)).trans k0
      have p1 : wr.cell? ⟨w.heap.size, 1, none⟩ = _ := (HB.out.cell (by exact hbox)).trans k1
      have p2 : wr.cell? ⟨w.heap.size, 2, none⟩ = _ := (HB.out.cell (by exact hbox)).trans k2
      have p3 : wr.cell? ⟨w.heap.size, 3, none⟩ = _ := (HB.out.cell (by exact hbox)).trans k3
      have p4 : wr.cell? ⟨w.heap.size, 4, none⟩ = _ := (HB.out.cell (by exact hbox)).trans k4
      have p5 : wr.cell? ⟨w.heap.size, 5, none⟩ = _ := (HB.out.cell (by exact hbox)).trans k5
      have p6 : wr.cell? ⟨w.heap.size, 6, none⟩ = _ := (HB.out.cell (by exact hbox)).trans k6
      have p7 : wr.cell? ⟨w.heap.size, 7, none⟩ = _ := (HB.out.cell (by exact hbox)).trans k7
      have lb : w.heap.size < wr.heap.size := Nat.lt_of_lt_of_le hbox HB.out.size
      have HBB : Hid (Below w.heap.size w wr) := HBW.out.trans (HB.out.mono HBW.out.size)
      have hz1 : ((zs.length - 1 : Nat) : Int) = (zs.length : Int) - 1 := by omega
      rw [hz1] at HBG
      have hwz : IntKind.i64.wrap ((zs.length : Int) - 1) = (zs.length : Int) - 1 := i64_fits _ (by omega)
      clear HN HTP HROW HX k0 k1 k2 k3 k4 k5 k6 k7 hz1
      go_wp2_with fail
      refine (HW.out _ HBB.out).mono ?_
      rintro e2 w2 ⟨rfl, hb2⟩
      have l2 : w.heap.size < w2.heap.size := Nat.lt_of_lt_of_le lb hb2.size
      have HB2 : Hid (Below w.heap.size w w2) := HBB.out.trans (hb2.mono HBB.out.size)
      have q0 : w2.cell? ⟨w.heap.size, 0, none⟩ = _ := (hb2.cell (by exact lb)).trans p0
      have q1 : w2.cell? ⟨w.heap.size, 1, none⟩ = _ := (hb2.cell (by exact lb)).trans p1
      have q2 : w2.cell? ⟨w.heap.size, 2, none⟩ = _ := (hb2.cell (by exact lb)).trans p2
      have q3 : w2.cell? ⟨w.heap.size, 3, none⟩ = _ := (hb2.cell (by exact lb)).trans p3
      have q4 : w2.cell? ⟨w.heap.size, 4, none⟩ = _ := (hb2.cell (by exact lb)).trans p4
      have q5 : w2.cell? ⟨w.heap.size, 5, none⟩ = _ := (hb2.cell (by exact lb)).trans p5
      have q6 : w2.cell? ⟨w.heap.size, 6, none⟩ = _ := (hb2.cell (by exact lb)).trans p6
      have q7 : w2.cell? ⟨w.heap.size, 7, none⟩ = _ := (hb2.cell (by exact lb)).trans p7
      clear hb2 HW p0 p1 p2 p3 p4 p5 p6 p7
      go_wp2_with fail
      refine (HL.out _ HB2.out).mono ?_
      rintro e3 w3 ⟨rfl, hb3⟩
      have l3 : w.heap.size < w3.heap.size := Nat.lt_of_lt_of_le l2 hb3.size
      have HB3 : Hid (Below w.heap.size w w3) := HB2.out.trans (hb3.mono HB2.out.size)
      have p0 : w3.cell? ⟨w.heap.size, 0, none⟩ = _ := (hb3.cell (by exact l2)).trans q0
      have p1 : w3.cell? ⟨w.heap.size, 1, none⟩ = _ := (hb3.cell (by exact l2)).trans q1
      have p2 : w3.cell? ⟨w.heap.size, 2, none⟩ = _ := (hb3.cell (by exact l2)).trans q2
      have p3 : w3.cell? ⟨w.heap.size, 3, none⟩ = _ := (hb3.cell (by exact l2)).trans q3
      have p4 : w3.cell? ⟨w.heap.size, 4, none⟩ = _ := (hb3.cell (by exact l2)).trans q4
      have p5 : w3.cell? ⟨w.heap.size, 5, none⟩ = _ := (hb3.cell (by exact l2)).trans q5
      have p6 : w3.cell? ⟨w.heap.size, 6, none⟩ = _ := (hb3.cell (by exact l2)).trans q6
      have p7 : w3.cell? ⟨w.heap.size, 7, none⟩ = _ := (hb3.cell (by exact l2)).trans q7
      clear hb3 HL q0 q1 q2 q3 q4 q5 q6 q7
      by_cases h1 : r.load < wt
      · have e1 : decide (r.load < wt) = true := by simpa using h1
        have HD := hid (HBK.out true ⟨fun _ => .inr (.inl h1), fun _ => rfl⟩)
        clear h1
        go_wp2_with fail
        go_ret
        exact ⟨ret_bool HD.out, by first | exact HB3.out | exact below_dn HB3.out _⟩
      · have e1 : decide (r.load < wt) = false := by simpa using h1
        by_cases h2 : ln = -1
        · have e2 : (ln == -1) = true := by simpa using h2
          have HD := hid (HBK.out true ⟨fun _ => .inr (.inr (.inl h2)), fun _ => rfl⟩)
          clear h1 h2
          go_wp2_with fail
          go_ret
          exact ⟨ret_bool HD.out, by first | exact HB3.out | exact below_dn HB3.out _⟩
        · have e2 : (ln == -1) = false := by simpa using h2
          have HD := hid (HBK.out bl ⟨fun h => .inr (.inr (.inr h)), fun h => by rcases h with h | h | h | h; exact absurd h HNT.out; exact absurd h h1; exact absurd h h2; exact h⟩)
          clear h1 h2
          go_wp2_with fail
          refine (HBG.out _ (by first | exact HB3.out | exact below_dn HB3.out _)).mono ?_
          rintro e4 w4 ⟨rfl, hb4⟩
          have HB4 : Hid (Below w.heap.size w w4) := by first | exact HB3.out.trans (hb4.mono HB3.out.size) | exact (below_dn HB3.out _).trans (hb4.mono HB3.out.size)
          clear hb4
          go_wp2_with fail
          go_ret
          exact ⟨ret_bool HD.out, HB4.out⟩
end Go.Proofs.YtebinaopncclgabGreatDoor
