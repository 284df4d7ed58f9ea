/- Walks: rows with too few columns. -/
import Derived.Test.YtebinaopncclgabGreatDoorGChain
import Derived.Test.YtebinaopncclgabGreatDoorCSq
import Derived.Test.YtebinaopncclgabGreatDoorWRange
namespace Go.Proofs.YtebinaopncclgabGreatDoor
open Go.RowKit Go.IntWalk

def dualAt (C : Nat → Nat → Int) (N : Nat) (zs : List Int) (i j : Nat) : Prop := C i j ≠ -1 → zs.getD i 0 + zs.getD (N + j) 0 ≤ C i j
open Classical in
set_option maxRecDepth 100000 in
set_option maxHeartbeats 4000000 in
theorem dualsHold_any (p : Nat) (r : Rd) (T : Nat → Nat → Int) (v vf : Value) (zs : List Int) (cl : Option Int) (w : World) (hok : RdOk r) (hl : zs.length ≤ 20) (hr : ListR w v zs) (hb : ∀ z ∈ zs, -100000000 ≤ z ∧ z ≤ 100000000)
    (ha : ArcsAt w p 8 r T vf) (hq : SqR w vf (r.stops.length + 1) (siteD r)) (h75 : w.cell? ⟨p, 75, none⟩ = some (.bool cl.isSome)) (h76 : w.cell? ⟨p, 76, none⟩ = some (.int .i64 (cl.getD 0))) :
    Calls Tryz.prog 221 #[.pointer (some ⟨p, 0, none⟩), v] w fun e w' => e = .returned (.bool (decide (∃ c, cl = some c ∧ DualsZ (insOf r (siteD r)) T c zs))) ∧ Below w.heap.size w w' := by
  have hns := hok.nstops
  have hvv : 1 ≤ r.vans ∧ r.vans ≤ 3 := by have := headOk_iff.1 hok.head; omega
  obtain ⟨vn, hvn⟩ : ∃ vn : Nat, r.vans = vn := ⟨r.vans.toNat, by omega⟩
  have hvt : r.vans.toNat = vn := by omega
  obtain ⟨N, hN⟩ : ∃ N, N = r.stops.length + vn := ⟨_, rfl⟩
  have hN10 : N ≤ 10 := by omega
  have HSQ := hid (square_own p 8 r T (siteD r) vf r.stops.length vn N w hns hvn (by omega) (by omega) hN ha hq)
  have HBD : Hid (∀ i j, -1 ≤ cellS r.stops.length T (siteD r) (lineN r.stops.length i) (lineN r.stops.length j) ∧ cellS r.stops.length T (siteD r) (lineN r.stops.length i) (lineN r.stops.length j) ≤ 200000) := fun i j => by
    have := site_short hok _ _ (show lineN r.stops.length i < r.stops.length + 1 by unfold lineN; split <;> omega) (show lineN r.stops.length j < r.stops.length + 1 by unfold lineN; split <;> omega)
    unfold cellS
    split
    · omega
    · split <;> omega
  have HDZ : Hid (∀ c, DualsZ (insOf r (siteD r)) T c zs ↔ zs.length = 2 * N ∧ c ≤ zs.sum ∧ ∀ i j, i < N → j < N → dualAt (fun i j => cellS r.stops.length T (siteD r) (lineN r.stops.length i) (lineN r.stops.length j)) N zs i j) := fun c => by
    have e : (insOf r (siteD r)).n + (insOf r (siteD r)).vans = N := by show r.stops.length + r.vans.toNat = N; omega
    constructor
    · intro h; exact ⟨by rw [h.len, e], h.sum, fun i j hi hj hne => by have := h.under i j (by omega) (by omega) hne; rw [e] at this; exact this⟩
    · rintro ⟨h1, h2, h3⟩; exact ⟨by rw [e]; exact h1, h2, fun i j hi hj hne => by rw [e]; exact h3 i j (by omega) (by omega) hne⟩
  have hp := ha.lt
  have HSU : Hid (∀ W, Below w.heap.size w W → Calls Tryz.prog 232 #[v] W fun e w' => e = .returned (.int .i64 zs.sum) ∧ Below W.heap.size W w') := fun W hW => gsum_any v zs W hl (hr.below hW) hb
  have hsb := sum_bound hb
  have hs2 : -2000000000 ≤ zs.sum ∧ zs.sum ≤ 2000000000 := by omega
  have HZB := hid hb
  have HR := hid hr
  obtain ⟨ao, c, rfl, _⟩ := hr
  obtain ⟨CC, hCC⟩ : ∃ CC : Nat → Nat → Int, CC = fun i j => cellS r.stops.length T (siteD r) (lineN r.stops.length i) (lineN r.stops.length j) := ⟨_, rfl⟩
  have HCB : Hid (∀ i j, -1 ≤ CC i j ∧ CC i j ≤ 200000) := fun i j => by rw [hCC]; exact HBD.out i j
  rw [← hCC] at HSQ HDZ
  clear hCC HBD hsb ha hq hb hok hN hvn hvt hvv
  go_enter Tryz.func221, Tryz.ntmps221
  go_wp2_with fail
  refine HSQ.out.mono ?_
  rintro e1 w1 ⟨v1, rfl, hg1, hb1⟩
  have HQ1 := hid (hg1.sq (by omega))
  obtain ⟨g1, G1, rfl, _⟩ := hg1
  have HB1 := hid hb1
  have h75 : w1.cell? ⟨p, 75, none⟩ = _ := (hb1.cell (by exact hp)).trans h75
  have h76 : w1.cell? ⟨p, 76, none⟩ = _ := (hb1.cell (by exact hp)).trans h76
  have hp1 : p < w1.heap.size := Nat.lt_of_lt_of_le hp hb1.size
  clear hb1 HSQ
  have hpz : p < w1.heap.size := hp1
  have wz : IntKind.i64.wrap (2 * (N : Int)) = 2 * (N : Int) := i64_fits _ (by omega)
  cases cl with
  | none =>
    have HN : Hid (¬ ∃ c, (none : Option Int) = some c ∧ DualsZ (insOf r (siteD r)) T c zs) := fun ⟨c, h, _⟩ => by cases h
    dsimp only [Option.isSome_none, Option.getD_none] at h75 h76
    go_wp2_with fail
    go_quiet (fail)
    go_wp2_with fail
    go_ret
    refine ⟨retB ?_, below_dn HB1.out _⟩
    symm
    rw [decide_eq_false_iff_not]; exact HN.out
  | some k =>
    have HN : Hid ((∃ c, some k = some c ∧ DualsZ (insOf r (siteD r)) T c zs) ↔ DualsZ (insOf r (siteD r)) T k zs) := ⟨fun ⟨c, h, h2⟩ => by cases h; exact h2, fun h => ⟨k, rfl, h⟩⟩
    dsimp only [Option.isSome_some, Option.getD_some] at h75 h76
    have HCW : Hid (∀ W, Below w1.heap.size w1 W → Calls Tryz.prog 232 #[.slice ao zs.length c] W fun e w' => e = .returned (.int .i64 zs.sum) ∧ w'.cell? ⟨p, 75, none⟩ = some (.bool true) ∧ w'.cell? ⟨p, 76, none⟩ = some (.int .i64 k) ∧ Hid (Below w1.heap.size w1 w')) := fun W hW => by
      refine (HSU.out W (HB1.out.trans (hW.mono HB1.out.size))).mono ?_
      rintro e w' ⟨h1, h2⟩
      have h3 : Below w1.heap.size w1 w' := hW.trans (h2.mono hW.size)
      exact ⟨h1, (h3.cell (by exact hpz)).trans h75, (h3.cell (by exact hpz)).trans h76, h3⟩
    by_cases hlen : zs.length = 2 * N
    · have b2 : ((zs.length : Int) != 2 * (N : Int)) = false := by simp; omega
      rw [hlen] at HCW
      by_cases hsum : zs.sum < k
      · have b3 : decide (zs.sum < k) = true := by simpa using hsum
        go_wp2_with fail
        go_region_held3 (fun w' => w'.cell? ⟨p, 75, none⟩ = some (.bool true) ∧ w'.cell? ⟨p, 76, none⟩ = some (.int .i64 k)) (go_keep) (first | (go_at_call 232; refine (HCW.out _ (by first | exact Below.refl _ _ | exact (Below.refl _ _).drew)).mono ?_; rintro e3 w3 ⟨rfl, x0, x1, HB3⟩))
        go_wp2_with fail
        go_ret
        refine ⟨retB ?_, HB1.out.trans (HB3.out.mono HB1.out.size)⟩
        symm
        rw [decide_eq_false_iff_not, HN.out, HDZ.out]
        exact fun h => by have := h.2.1; omega
      · have b3 : decide (zs.sum < k) = false := by simpa using hsum
        have HAL : Hid ((∀ i j, i < N → j < N → dualAt CC N zs i j) ↔ DualsZ (insOf r (siteD r)) T k zs) := by
          show _ ↔ _
          rw [HDZ.out]; exact ⟨fun h => ⟨hlen, by omega, h⟩, fun h => h.2.2⟩
        go_wp2_with fail
        go_region_held3 (fun w' => w'.cell? ⟨p, 75, none⟩ = some (.bool true) ∧ w'.cell? ⟨p, 76, none⟩ = some (.int .i64 k)) (go_keep) (first | (go_at_call 232; refine (HCW.out _ (by first | exact Below.refl _ _ | exact (Below.refl _ _).drew)).mono ?_; rintro e3 w3 ⟨rfl, x0, x1, HB3⟩))
        have HLE : Hid (zs.length = 2 * N) := hlen
        have HR3 := hid (HR.out.below (HB1.out.trans (HB3.out.mono HB1.out.size)))
        have HQ3 := hid (HQ1.out.below HB3.out)
        have HW3 : Hid (Below w.heap.size w w3) := HB1.out.trans (HB3.out.mono HB1.out.size)
        clear HCW HSU HR HQ1 HB3 HB1 h75 h76 x0 x1 b3 hsum hs2 HDZ
        go_wp2_with fail
        go_loopw [7] (fun i wr => ∃ a : Nat, i = .int .i64 a ∧ a ≤ N ∧ Hid (∀ i j, i < a → j < N → dualAt CC N zs i j) ∧ Hid (Below w3.heap.size w3 wr)) (fun i _ => N - (intOf i).toNat)
        case atStart => exact ⟨0, rfl, by omega, fun i j h => absurd h (by omega), by first | exact Below.refl _ _ | exact (Below.refl _ _).drew⟩
        case round =>
          obtain ⟨a, rfl, ha, HI, HB⟩ := hrel
          by_cases hlt : a < N
          · obtain ⟨ao', co', hv, hr3⟩ := HR3.out
            cases hv
            obtain ⟨g, hao, hgl, hza⟩ := hr3 a (by omega)
            subst hao
            obtain ⟨aq, cq, hvq, _, hq3⟩ := HQ3.out
            cases hvq
            obtain ⟨gq, gi, ci, hgq, hgql, hgc, hgil, hrow⟩ := hq3 a hlt
            cases hgq
            have HZ := hid hr3
            have HROW := hid hrow
            clear hr3 hq3 hrow
            go_wp2_with go_in
            go_loopw [8] (fun i wr => ∃ b : Nat, i = .int .i64 b ∧ b ≤ N ∧ Hid (∀ j, j < b → dualAt CC N zs a j) ∧ Hid (Below w3.heap.size w3 wr)) (fun i _ => N - (intOf i).toNat)
            case atStart => exact ⟨0, rfl, by omega, fun j h => absurd h (by omega), by first | exact HB.out | exact HB.out.drew⟩
            case round =>
              obtain ⟨b, rfl, hbN, HJ, HB2⟩ := hrel
              by_cases hlb : b < N
              · obtain ⟨g', hg', _, hzb⟩ := HZ.out (N + b) (by have := HLE.out; omega)
                cases hg'
                have y0 : wr.cell? ⟨g, a, none⟩ = _ := (HB2.out.cell (by exact hgl)).trans hza
                have y1 : wr.cell? ⟨g, N + b, none⟩ = _ := (HB2.out.cell (by exact hgl)).trans hzb
                have y2 : wr.cell? ⟨g1, a, none⟩ = _ := (HB2.out.cell (by exact hgql)).trans hgc
                have y3 : wr.cell? ⟨gi, b, none⟩ = _ := (HB2.out.cell (by exact hgil)).trans (HROW.out b hlb)
                have l1 : g < wr.heap.size := Nat.lt_of_lt_of_le hgl HB2.out.size
                have l2 : g1 < wr.heap.size := Nat.lt_of_lt_of_le hgql HB2.out.size
                have l3 : gi < wr.heap.size := Nat.lt_of_lt_of_le hgil HB2.out.size
                have ia : (0 : Int) ≤ (a : Int) := by omega
                have ja : (a : Int) < (N : Int) := by omega
                have ja2 : (a : Int) < 2 * (N : Int) := by omega
                have ja3 : (a : Int) < ((2 * N : Nat) : Int) := by omega
                have ib : (0 : Int) ≤ (b : Int) := by omega
                have jb : (b : Int) < (N : Int) := by omega
                have wn : IntKind.i64.wrap ((N : Int) + (b : Int)) = ((N + b : Nat) : Int) := by rw [i64_fits _ (by omega)]; omega
                have in1 : (0 : Int) ≤ ((N + b : Nat) : Int) := by omega
                have in2 : ((N + b : Nat) : Int) < ((2 * N : Nat) : Int) := by omega
                have in3 : (N : Int) + (b : Int) < 2 * (N : Int) := by omega
                have in4 : (0 : Int) ≤ (N : Int) + (b : Int) := by omega
                have hba := HZB.out _ (getD_mem (zs := zs) (j := a) (by have := HLE.out; omega))
                have hbb := HZB.out _ (getD_mem (zs := zs) (j := N + b) (by have := HLE.out; omega))
                have hcc := HCB.out a b
                have HDA : Hid (dualAt CC N zs a b ↔ (CC a b ≠ -1 → zs.getD a 0 + zs.getD (N + b) 0 ≤ CC a b)) := Iff.rfl
                generalize zs.getD a 0 = x at *
                generalize zs.getD (N + b) 0 = y at *
                obtain ⟨d, hd⟩ : ∃ d, d = CC a b := ⟨_, rfl⟩
                rw [← hd] at y3 hcc HDA
                have wxy : IntKind.i64.wrap (x + y) = x + y := i64_fits _ (by omega)
                clear hd hza hzb
                by_cases hc1 : d = -1
                · have c1 : (d != (-1 : Int)) = false := by simp [hc1]
                  have HG : Hid (dualAt CC N zs a b) := HDA.out.2 (fun h => absurd hc1 h)
                  clear hc1 HDA
                  go_wp2_with go_in
                  go_quiet (fail)
                  go_wp2_with go_in
                  refine ⟨⟨b + 1, by go_num, by omega, fun j hj => ?_, by first | exact below_dn HB2.out _ | exact HB2.out⟩, by simp [intOf]; omega⟩
                  by_cases hjb : j = b
                  · rw [hjb]; exact HG.out
                  · exact HJ.out j (by omega)
                · have c1 : (d != (-1 : Int)) = true := by simpa using hc1
                  by_cases hle : d < x + y
                  · have c2 : decide (d < x + y) = true := by simpa using hle
                    have HG : Hid (¬ dualAt CC N zs a b) := fun h => by have := HDA.out.1 h hc1; omega
                    clear hc1 HDA
                    go_wp2_with go_in
                    go_quiet (fail)
                    go_wp2_with go_in
                    go_ret
                    refine ⟨retB ?_, by first | exact HW3.out.trans ((below_dn HB2.out _).mono HW3.out.size) | exact HW3.out.trans (HB2.out.mono HW3.out.size)⟩
                    symm
                    rw [decide_eq_false_iff_not, HN.out, ← HAL.out]
                    exact fun h => HG.out (h a b hlt hlb)
                  · have c2 : decide (d < x + y) = false := by simpa using hle
                    have HG : Hid (dualAt CC N zs a b) := HDA.out.2 (fun _ => by omega)
                    clear hc1 HDA
                    go_wp2_with go_in
                    go_quiet (fail)
                    go_wp2_with go_in
                    refine ⟨⟨b + 1, by go_num, by omega, fun j hj => ?_, by first | exact below_dn HB2.out _ | exact HB2.out⟩, by simp [intOf]; omega⟩
                    by_cases hjb : j = b
                    · rw [hjb]; exact HG.out
                    · exact HJ.out j (by omega)
              · go_wp2_with go_in
                refine ⟨⟨a + 1, by go_num, by omega, fun i j hi hj => ?_, HB2.out⟩, by simp [intOf]; omega⟩
                by_cases hia : i = a
                · rw [hia]; exact HJ.out j (by omega)
                · exact HI.out i j (by omega) hj
          · go_wp2_with go_in
            go_ret
            refine ⟨retB ?_, HW3.out.trans (HB.out.mono HW3.out.size)⟩
            symm
            rw [decide_eq_true_eq, HN.out, ← HAL.out]
            exact fun i j hi hj => HI.out i j (by omega) hj
    · have b2 : ((zs.length : Int) != 2 * (N : Int)) = true := by simp; omega
      have HNL : Hid (¬ DualsZ (insOf r (siteD r)) T k zs) := fun h => hlen ((HDZ.out k).1 h).1
      clear hlen
      go_wp2_with fail
      go_quiet (fail)
      go_wp2_with fail
      go_ret
      refine ⟨retB ?_, below_dn HB1.out _⟩
      symm
      rw [decide_eq_false_iff_not, HN.out]; exact HNL.out
end Go.Proofs.YtebinaopncclgabGreatDoor
namespace Go.Proofs.YtebinaopncclgabGreatDoor
open Go.RowKit Go.IntWalk

def openAt (C : Nat → Nat → Int) (zs : List Int) (j i : Nat) : Prop := C (zs.getD i 0).toNat j ≠ -1
open Classical in
set_option maxRecDepth 100000 in
set_option maxHeartbeats 4000000 in
theorem opens_any (N j : Nat) (C : Nat → Nat → Int) (v vr : Value) (zs : List Int) (w : World) (hl : zs.length ≤ 20) (hr : ListR w v zs) (hq : SqR w vr N C) (hz : ∀ x ∈ zs, 0 ≤ x ∧ x < (N : Int)) (hj : j < N) :
    Calls Tryz.prog 233 #[vr, v, .int .i64 j] w fun e w' => e = .returned (.bool (decide (∃ i, i < zs.length ∧ openAt C zs j i))) ∧ Below w.heap.size w w' := by
  obtain ⟨ao, c, rfl, hr⟩ := hr
  obtain ⟨aq, cq, rfl, hN, hq⟩ := hq
  have HR := hid hr
  have HQ := hid hq
  have HZ := hid hz
  clear hr hq hz
  go_enter Tryz.func233, Tryz.ntmps233
  go_wp2_with fail
  go_loopw [7] (fun i wr => ∃ a : Nat, i = .int .i64 a ∧ a ≤ zs.length ∧ Hid (∀ i, i < a → ¬ openAt C zs j i) ∧ Hid (Below w.heap.size w wr)) (fun i _ => zs.length - (intOf i).toNat)
  case atStart => exact ⟨0, rfl, by omega, fun i h => absurd h (by omega), Below.refl _ _⟩
  case round =>
    obtain ⟨a, rfl, ha, HN, HB⟩ := hrel
    by_cases hlt : a < zs.length
    · obtain ⟨g, hao, hgl, hza⟩ := HR.out a hlt
      subst hao
      have hz := HZ.out _ (getD_mem hlt)
      have HO : Hid (openAt C zs j a ↔ C (zs.getD a 0).toNat j ≠ -1) := Iff.rfl
      generalize zs.getD a 0 = x at *
      obtain ⟨m, rfl⟩ : ∃ m : Nat, x = m := ⟨x.toNat, by omega⟩
      obtain ⟨gq, gi, ci, hgq, hgql, hgc, hgil, hrow⟩ := HQ.out m (by omega)
      subst hgq
      have y0 : wr.cell? ⟨g, a, none⟩ = _ := (HB.out.cell (by exact hgl)).trans hza
      have y2 : wr.cell? ⟨gq, m, none⟩ = _ := (HB.out.cell (by exact hgql)).trans hgc
      have y3 : wr.cell? ⟨gi, j, none⟩ = _ := (HB.out.cell (by exact hgil)).trans (hrow j hj)
      have l1 : g < wr.heap.size := Nat.lt_of_lt_of_le hgl HB.out.size
      have l2 : gq < wr.heap.size := Nat.lt_of_lt_of_le hgql HB.out.size
      have l3 : gi < wr.heap.size := Nat.lt_of_lt_of_le hgil HB.out.size
      have ia : (0 : Int) ≤ (a : Int) := by omega
      have ja : (a : Int) < (zs.length : Int) := by omega
      have im : (0 : Int) ≤ (m : Int) := by omega
      have jm : (m : Int) < (N : Int) := by omega
      have ij : (0 : Int) ≤ (j : Int) := by omega
      have jj : (j : Int) < (N : Int) := by omega
      rw [Int.toNat_natCast] at HO
      obtain ⟨d, hd⟩ : ∃ d, d = C m j := ⟨_, rfl⟩
      rw [← hd] at y3 HO
      clear hd hza hgc hrow
      by_cases hc1 : d = -1
      · have c1 : (d != (-1 : Int)) = false := by simp [hc1]
        have HG : Hid (¬ openAt C zs j a) := fun h => HO.out.1 h hc1
        clear hc1 HO
        go_wp2_with go_in
        refine ⟨⟨a + 1, by go_num, by omega, fun i hi => ?_, by first | exact HB.out | exact HB.out.drew | exact below_dn HB.out _⟩, by simp [intOf]; omega⟩
        by_cases hia : i = a
        · rw [hia]; exact HG.out
        · exact HN.out i (by omega)
      · have c1 : (d != (-1 : Int)) = true := by simpa using hc1
        have HG : Hid (openAt C zs j a) := HO.out.2 hc1
        clear hc1 HO
        go_wp2_with go_in
        go_ret
        refine ⟨retB ?_, by first | exact HB.out | exact HB.out.drew | exact below_dn HB.out _⟩
        symm
        rw [decide_eq_true_eq]; exact ⟨a, hlt, HG.out⟩
    · go_wp2_with go_in
      go_ret
      refine ⟨retB ?_, HB.out⟩
      symm
      rw [decide_eq_false_iff_not]
      rintro ⟨i, h1, h2⟩
      exact HN.out i (by omega) h2
theorem openAt_any {C : Nat → Nat → Int} {zs : List Int} {j : Nat} : (∃ i, i < zs.length ∧ openAt C zs j i) ↔ (zs.any fun r => decide (C r.toNat j ≠ -1)) = true := by
  rw [List.any_eq_true]
  constructor
  · rintro ⟨i, h1, h2⟩; exact ⟨_, getD_mem h1, by simpa [openAt] using h2⟩
  · rintro ⟨x, hx, h⟩
    obtain ⟨i, hi, rfl⟩ := List.mem_iff_getElem.1 hx
    refine ⟨i, hi, ?_⟩
    unfold openAt
    rw [List.getD_eq_getElem?_getD, List.getElem?_eq_getElem hi]; simpa using h
def hitsTo (C : Nat → Nat → Int) (zs : List Int) (k : Nat) : Nat := ((List.range k).filter fun j => zs.any fun r => decide (C r.toNat j ≠ -1)).length
theorem hitsTo_succ (C : Nat → Nat → Int) (zs : List Int) (k : Nat) : hitsTo C zs (k + 1) = hitsTo C zs k + (if (zs.any fun r => decide (C r.toNat k ≠ -1)) = true then 1 else 0) := by
  unfold hitsTo
  rw [List.range_succ, List.filter_append, List.length_append]
  congr 1
  split
  · rename_i h; rw [List.filter_cons_of_pos (p := fun j => zs.any fun r => decide (C r.toNat j ≠ -1)) h]; rfl
  · rename_i h; rw [List.filter_cons_of_neg (p := fun j => zs.any fun r => decide (C r.toNat j ≠ -1)) h]; rfl
theorem hitsTo_le (C : Nat → Nat → Int) (zs : List Int) (k : Nat) : hitsTo C zs k ≤ k := by
  unfold hitsTo
  have := List.length_filter_le (fun j => zs.any fun r => decide (C r.toNat j ≠ -1)) (List.range k)
  simpa using this
def rowOk (N : Nat) (zs : List Int) (i : Nat) : Prop := 0 ≤ zs.getD i 0 ∧ zs.getD i 0 < (N : Int) ∧ (0 < i → zs.getD (i - 1) 0 < zs.getD i 0)
theorem rows_iff {N : Nat} {zs : List Int} : ((∀ x ∈ zs, 0 ≤ x ∧ x < (N : Int)) ∧ risingZ zs) ↔ ∀ i, i < zs.length → rowOk N zs i := by
  constructor
  · rintro ⟨h1, h2⟩ i hi
    refine ⟨(h1 _ (getD_mem hi)).1, (h1 _ (getD_mem hi)).2, fun h0 => ?_⟩
    obtain ⟨k, rfl⟩ : ∃ k, i = k + 1 := ⟨i - 1, by omega⟩
    exact h2 k hi
  · intro h
    refine ⟨fun x hx => ?_, fun i hi => ?_⟩
    · obtain ⟨i, hi, rfl⟩ := List.mem_iff_getElem.1 hx
      have := h i hi
      unfold rowOk at this
      rw [List.getD_eq_getElem?_getD, List.getElem?_eq_getElem hi, Option.getD_some] at this
      exact ⟨this.1, this.2.1⟩
    · exact (h (i + 1) hi).2.2 (by omega)

open Classical in
set_option maxRecDepth 100000 in
set_option maxHeartbeats 4000000 in
theorem hallHolds_any (p : Nat) (r : Rd) (T : Nat → Nat → Int) (v vf : Value) (zs : List Int) (w : World) (hok : RdOk r) (hl : zs.length ≤ 20) (hr : ListR w v zs)
    (ha : ArcsAt w p 8 r T vf) (hq : SqR w vf (r.stops.length + 1) (siteD r)) :
    Calls Tryz.prog 222 #[.pointer (some ⟨p, 0, none⟩), v] w fun e w' => e = .returned (.bool (decide (HallZ (insOf r (siteD r)) T zs))) ∧ Below w.heap.size w w' := by
  have hns := hok.nstops
  have hvv : 1 ≤ r.vans ∧ r.vans ≤ 3 := by have := headOk_iff.1 hok.head; omega
  obtain ⟨vn, hvn⟩ : ∃ vn : Nat, r.vans = vn := ⟨r.vans.toNat, by omega⟩
  have hvt : r.vans.toNat = vn := by omega
  obtain ⟨N, hN⟩ : ∃ N, N = r.stops.length + vn := ⟨_, rfl⟩
  have hN10 : N ≤ 10 := by omega
  have HSQ := hid (square_own p 8 r T (siteD r) vf r.stops.length vn N w hns hvn (by omega) (by omega) hN ha hq)
  have HHZ : Hid (HallZ (insOf r (siteD r)) T zs ↔ (∀ i, i < zs.length → rowOk N zs i) ∧ hitsTo (fun i j => cellS r.stops.length T (siteD r) (lineN r.stops.length i) (lineN r.stops.length j)) zs N < zs.length) := by
    have e : (insOf r (siteD r)).n + (insOf r (siteD r)).vans = N := by show r.stops.length + r.vans.toNat = N; omega
    show _ ↔ _
    rw [← rows_iff]
    constructor
    · intro h
      have h1 := h.rows
      have h3 := h.few
      rw [e] at h1 h3
      exact ⟨⟨h1, h.rising⟩, h3⟩
    · rintro ⟨⟨h1, h2⟩, h3⟩
      exact ⟨by rw [e]; exact h1, h2, by rw [e]; exact h3⟩
  have hp := ha.lt
  have HR := hid hr
  obtain ⟨ao, c, rfl, _⟩ := hr
  obtain ⟨CC, hCC⟩ : ∃ CC : Nat → Nat → Int, CC = fun i j => cellS r.stops.length T (siteD r) (lineN r.stops.length i) (lineN r.stops.length j) := ⟨_, rfl⟩
  rw [← hCC] at HSQ HHZ
  clear hCC ha hq hok hN hvn hvt hvv
  go_enter Tryz.func222, Tryz.ntmps222
  go_wp2_with fail
  refine HSQ.out.mono ?_
  rintro e1 w1 ⟨v1, rfl, hg1, hb1⟩
  have HQ1 := hid (hg1.sq (by omega))
  obtain ⟨g1, G1, rfl, _⟩ := hg1
  have HB1 := hid hb1
  have HR1 := hid (HR.out.below hb1)
  clear hb1 HSQ HR
  go_wp2_with fail
  go_loopw [6] (fun i wr => ∃ a : Nat, i = .int .i64 a ∧ a ≤ zs.length ∧ Hid (∀ i, i < a → rowOk N zs i) ∧ Hid (Below w1.heap.size w1 wr)) (fun i _ => zs.length - (intOf i).toNat)
  case atStart => exact ⟨0, rfl, by omega, fun i h => absurd h (by omega), by first | exact Below.refl _ _ | exact (Below.refl _ _).drew⟩
  case round =>
    obtain ⟨a, rfl, ha, HN, HB⟩ := hrel
    have HBW : Hid (Below w.heap.size w wr) := HB1.out.trans (HB.out.mono HB1.out.size)
    by_cases hlt : a < zs.length
    · obtain ⟨ao', co', hv, hr3⟩ := HR1.out
      cases hv
      obtain ⟨g, hao, hgl, hza⟩ := hr3 a hlt
      subst hao
      have y0 : wr.cell? ⟨g, a, none⟩ = _ := (HB.out.cell (by exact hgl)).trans hza
      have l1 : g < wr.heap.size := Nat.lt_of_lt_of_le hgl HB.out.size
      have ia : (0 : Int) ≤ (a : Int) := by omega
      have ja : (a : Int) < (zs.length : Int) := by omega
      have HNO : Hid (¬ rowOk N zs a → ¬ HallZ (insOf r (siteD r)) T zs) := fun h h2 => h ((HHZ.out.1 h2).1 a hlt)
      have HRK : Hid (rowOk N zs a ↔ (0 ≤ zs.getD a 0 ∧ zs.getD a 0 < (N : Int) ∧ (0 < a → zs.getD (a - 1) 0 < zs.getD a 0))) := Iff.rfl
      have hrel2 : (a = 0) ∨ ∃ a', a = a' + 1 ∧ wr.cell? ⟨g, a', none⟩ = some (.int .i64 (zs.getD (a - 1) 0)) := by
        by_cases h0 : a = 0
        · exact .inl h0
        · obtain ⟨g', hg', _, hzb⟩ := hr3 (a - 1) (by omega)
          cases hg'
          exact .inr ⟨a - 1, by omega, (HB.out.cell (by exact hgl)).trans hzb⟩
      generalize zs.getD a 0 = x at *
      generalize zs.getD (a - 1) 0 = y at *
      clear hr3 hza
      by_cases e1 : 0 ≤ x
      · have b1 : decide (x < 0) = false := by simp; omega
        by_cases e2 : x < (N : Int)
        · have b2 : decide ((N : Int) ≤ x) = false := by simp; omega
          rcases hrel2 with h0 | ⟨a', ha', y1⟩
          · have b3 : decide ((0 : Int) < (a : Int)) = false := by simp; omega
            have b3' : decide (0 < a) = false := by simp; omega
            have HG : Hid (rowOk N zs a) := HRK.out.2 ⟨e1, e2, fun h => by omega⟩
            clear h0 HRK HNO e1 e2
            go_wp2_with go_in
            go_quiet (fail)
            go_wp2_with go_in
            refine ⟨⟨a + 1, by go_num, by omega, fun i hi => ?_, below_dn HB.out _⟩, by simp [intOf]; omega⟩
            by_cases hia : i = a
            · rw [hia]; exact HG.out
            · exact HN.out i (by omega)
          · subst ha'
            have b3 : decide ((0 : Int) < ((a' + 1 : Nat) : Int)) = true := decide_eq_true (by omega)
            have wz : IntKind.i64.wrap (((a' + 1 : Nat) : Int) - 1) = (a' : Int) := by rw [i64_fits _ (by omega)]; omega
            have wz2 : IntKind.i64.wrap ((a' : Int) + 1 - 1) = (a' : Int) := by rw [i64_fits _ (by omega)]; omega
            have wz3 : IntKind.i64.wrap (a' : Int) = (a' : Int) := i64_fits _ (by omega)
            have ia' : (0 : Int) ≤ (a' : Int) := by omega
            have ja' : (a' : Int) < (zs.length : Int) := by omega
            by_cases e3 : x ≤ y
            · have b4 : decide (x ≤ y) = true := by simpa using e3
              have HG : Hid (¬ HallZ (insOf r (siteD r)) T zs) := HNO.out (fun h => by have := (HRK.out.1 h).2.2 (by omega); omega)
              clear HRK HNO e1 e2 e3
              go_wp2_with go_in
              go_quiet (fail)
              go_wp2_with go_in
              go_ret
              refine ⟨retB ?_, by first | exact below_dn HBW.out _ | exact HBW.out | exact HBW.out.drew⟩
              symm
              rw [decide_eq_false_iff_not]; exact HG.out
            · have b4 : decide (x ≤ y) = false := by simpa using e3
              have HG : Hid (rowOk N zs (a' + 1)) := HRK.out.2 ⟨e1, e2, fun _ => by omega⟩
              clear HRK HNO e1 e2 e3
              go_wp2_with go_in
              go_quiet (fail)
              go_wp2_with go_in
              refine ⟨⟨(a' + 1) + 1, by go_num, by omega, fun i hi => ?_, below_dn HB.out _⟩, by simp [intOf]; omega⟩
              by_cases hia : i = (a' + 1)
              · rw [hia]; exact HG.out
              · exact HN.out i (by omega)
        · have b2 : decide ((N : Int) ≤ x) = true := by simp; omega
          have HG : Hid (¬ HallZ (insOf r (siteD r)) T zs) := HNO.out (fun h => by have := (HRK.out.1 h).2.1; omega)
          clear HRK HNO e1 e2 hrel2
          go_wp2_with go_in
          go_ret
          refine ⟨retB ?_, by first | exact below_dn HBW.out _ | exact HBW.out | exact HBW.out.drew⟩
          symm
          rw [decide_eq_false_iff_not]; exact HG.out
      · have b1 : decide (x < 0) = true := by simp; omega
        have HG : Hid (¬ HallZ (insOf r (siteD r)) T zs) := HNO.out (fun h => by have := (HRK.out.1 h).1; omega)
        clear HRK HNO e1 hrel2
        go_wp2_with go_in
        go_ret
        refine ⟨retB ?_, by first | exact below_dn HBW.out _ | exact HBW.out | exact HBW.out.drew⟩
        symm
        rw [decide_eq_false_iff_not]; exact HG.out
    · have HAL : Hid (∀ i, i < zs.length → rowOk N zs i) := fun i hi => HN.out i (by omega)
      have HZ : Hid (∀ x ∈ zs, 0 ≤ x ∧ x < (N : Int)) := (rows_iff.2 HAL.out).1
      have HEQ : Hid (HallZ (insOf r (siteD r)) T zs ↔ hitsTo CC zs N < zs.length) := ⟨fun h => (HHZ.out.1 h).2, fun h => HHZ.out.2 ⟨HAL.out, h⟩⟩
      have HOP : Hid (∀ W j, j < N → Below w1.heap.size w1 W → Calls Tryz.prog 233 #[.slice (some ⟨g1, 0, none⟩) N N, .slice ao zs.length c, .int .i64 j] W fun e w' => e = .returned (.bool (decide (∃ i, i < zs.length ∧ openAt CC zs j i))) ∧ Below W.heap.size W w') := fun W j hj hW => opens_any N j CC _ _ zs W hl (HR1.out.below hW) (HQ1.out.below hW) HZ.out hj
      clear HN HHZ HAL HZ HR1 HQ1
      go_wp2_with fail
      go_loopw [7, 8] (fun cv i wr => ∃ b : Nat, i = .int .i64 b ∧ b ≤ N ∧ cv = .int .i64 (hitsTo CC zs b) ∧ Hid (Below w1.heap.size w1 wr)) (fun _ i _ => N - (intOf i).toNat)
      case atStart => exact ⟨0, rfl, by omega, rfl, by first | exact HB.out | exact HB.out.drew⟩
      case round =>
        obtain ⟨b, rfl, hbN, rfl, HB2⟩ := hrel
        have HBW2 : Hid (Below w.heap.size w wr) := HB1.out.trans (HB2.out.mono HB1.out.size)
        have hh := hitsTo_le CC zs b
        by_cases hlb : b < N
        · have HC := hid (HOP.out wr b hlb HB2.out)
          have HS := hid (hitsTo_succ CC zs b)
          by_cases ho : ∃ i, i < zs.length ∧ openAt CC zs b i
          · rw [if_pos (openAt_any.1 ho)] at HS
            rw [decide_eq_true ho] at HC
            clear ho
            generalize hitsTo CC zs b = h at *
            go_wp2_with fail
            refine HC.out.mono ?_
            rintro e3 w3 ⟨rfl, hb3⟩
            have HB3 : Hid (Below w1.heap.size w1 w3) := HB2.out.trans (hb3.mono HB2.out.size)
            clear hb3
            go_wp2_with fail
            exact ⟨⟨b + 1, by go_num, by omega, by rw [HS.out]; go_num, HB3⟩, by simp [intOf]; omega⟩
          · rw [if_neg (fun h => ho (openAt_any.2 h))] at HS
            rw [decide_eq_false ho] at HC
            clear ho
            generalize hitsTo CC zs b = h at *
            go_wp2_with fail
            refine HC.out.mono ?_
            rintro e3 w3 ⟨rfl, hb3⟩
            have HB3 : Hid (Below w1.heap.size w1 w3) := HB2.out.trans (hb3.mono HB2.out.size)
            clear hb3
            go_wp2_with fail
            exact ⟨⟨b + 1, by go_num, by omega, by rw [HS.out]; rfl, HB3⟩, by simp [intOf]; omega⟩
        · obtain rfl : b = N := by omega
          go_wp2_with fail
          go_ret
          refine ⟨retB ?_, HBW2.out⟩
          rw [Bool.eq_iff_iff, decide_eq_true_eq, decide_eq_true_eq, HEQ.out]
          first | done | omega
end Go.Proofs.YtebinaopncclgabGreatDoor
