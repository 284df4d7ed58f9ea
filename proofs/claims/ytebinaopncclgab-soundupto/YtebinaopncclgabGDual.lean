/- Walks: numbers of rows and columns that hold. -/
import Derived.Test.YtebinaopncclgabGChain
import Derived.Test.YtebinaopncclgabCSq
import Derived.Test.YtebinaopncclgabWRange
namespace Go.Proofs.Ytebinaopncclgab
open Go.RowKit Go.IntWalk

def dualAt (C : Nat → Nat → Int) (N : Nat) (zs : List Int) (i j : Nat) : Prop := C i j ≠ -1 → zs.getD i 0 + zs.getD (N + j) 0 ≤ C i j
open Classical in
set_option maxRecDepth 100000 in
set_option maxHeartbeats 4000000 in
theorem dualsHold_any (p : Nat) (r : Rd) (T : Nat → Nat → Int) (v vf : Value) (zs : List Int) (cl : Option Int) (w : World) (hok : RdOk r) (hl : zs.length ≤ 20) (hr : ListR w v zs) (hb : ∀ z ∈ zs, -100000000 ≤ z ∧ z ≤ 100000000)
    (ha : ArcsAt w p 8 r T vf) (hq : SqR w vf (r.stops.length + 1) (siteD r)) (h75 : w.cell? ⟨p, 75, none⟩ = some (.bool cl.isSome)) (h76 : w.cell? ⟨p, 76, none⟩ = some (.int .i64 (cl.getD 0))) :
    Calls Try.prog 63 #[.pointer (some ⟨p, 0, none⟩), v] w fun e w' => e = .returned (.bool (decide (∃ c, cl = some c ∧ DualsZ (insOf r (siteD r)) T c zs))) ∧ Below w.heap.size w w' := by
  have hns := hok.nstops
  have hvv : 1 ≤ r.vans ∧ r.vans ≤ 3 := by have := headOk_iff.1 hok.head; omega
  obtain ⟨vn, hvn⟩ : ∃ vn : Nat, r.vans = vn := ⟨r.vans.toNat, by omega⟩
  have hvt : r.vans.toNat = vn := by omega
  obtain ⟨N, hN⟩ : ∃ N, N = r.stops.length + vn := ⟨_, rfl⟩
  have hN10 : N ≤ 10 := by omega
  have HSQ := hid (square_own p 8 r T (siteD r) vf r.stops.length vn N w hns hvn (by omega) (by omega) hN ha hq)
  have HBD : Hid (∀ i j, -1 ≤ cellS r.stops.length T (siteD r) (lineN r.stops.length i) (lineN r.stops.length j) ∧ cellS r.stops.length T (siteD r) (lineN r.stops.length i) (lineN r.stops.length j) ≤ 200000) := fun i j => by
    have := site_short hok _ _ (show lineN r.stops.length i < r.stops.length + 1 by unfold lineN; split <;> omega) (show lineN r.stops.length j < r.stops.length + 1 by unfold lineN; split <;> omega)
    unfold cellS
    split
    · omega
    · split <;> omega
  have HDZ : Hid (∀ c, DualsZ (insOf r (siteD r)) T c zs ↔ zs.length = 2 * N ∧ c ≤ zs.sum ∧ ∀ i j, i < N → j < N → dualAt (fun i j => cellS r.stops.length T (siteD r) (lineN r.stops.length i) (lineN r.stops.length j)) N zs i j) := fun c => by
    have e : (insOf r (siteD r)).n + (insOf r (siteD r)).vans = N := by show r.stops.length + r.vans.toNat = N; omega
    constructor
    · intro h; exact ⟨by rw [h.len, e], h.sum, fun i j hi hj hne => by have := h.under i j (by omega) (by omega) hne; rw [e] at this; exact this⟩
    · rintro ⟨h1, h2, h3⟩; exact ⟨by rw [e]; exact h1, h2, fun i j hi hj hne => by rw [e]; exact h3 i j (by omega) (by omega) hne⟩
  have hp := ha.lt
  have HSU : Hid (∀ W, Below w.heap.size w W → Calls Try.prog 71 #[v] W fun e w' => e = .returned (.int .i64 zs.sum) ∧ Below W.heap.size W w') := fun W hW => gsum_any v zs W hl (hr.below hW) hb
  have hsb := sum_bound hb
  have hs2 : -2000000000 ≤ zs.sum ∧ zs.sum ≤ 2000000000 := by omega
  have HZB := hid hb
  have HR := hid hr
  obtain ⟨ao, c, rfl, _⟩ := hr
  obtain ⟨CC, hCC⟩ : ∃ CC : Nat → Nat → Int, CC = fun i j => cellS r.stops.length T (siteD r) (lineN r.stops.length i) (lineN r.stops.length j) := ⟨_, rfl⟩
  have HCB : Hid (∀ i j, -1 ≤ CC i j ∧ CC i j ≤ 200000) := fun i j => by rw [hCC]; exact HBD.out i j
  rw [← hCC] at HSQ HDZ
  clear hCC HBD hsb ha hq hb hok hN hvn hvt hvv
  go_enter Try.func63, Try.ntmps63
  go_wp2_with fail
  refine HSQ.out.mono ?_
  rintro e1 w1 ⟨v1, rfl, hg1, hb1⟩
  have HQ1 := hid (hg1.sq (by omega))
  obtain ⟨g1, G1, rfl, _⟩ := hg1
  have HB1 := hid hb1
  have h75 : w1.cell? ⟨p, 75, none⟩ = _ := (hb1.cell (by exact hp)).trans h75
  have h76 : w1.cell? ⟨p, 76, none⟩ = _ := (hb1.cell (by exact hp)).trans h76
  have hp1 : p < w1.heap.size := Nat.lt_of_lt_of_le hp hb1.size
  clear hb1 HSQ
  have hpz : p < w1.heap.size := hp1
  have wz : IntKind.i64.wrap (2 * (N : Int)) = 2 * (N : Int) := i64_fits _ (by omega)
  cases cl with
  | none =>
    have HN : Hid (¬ ∃ c, (none : Option Int) = some c ∧ DualsZ (insOf r (siteD r)) T c zs) := fun ⟨c, h, _⟩ => by cases h
    dsimp only [Option.isSome_none, Option.getD_none] at h75 h76
    go_wp2_with fail
    go_quiet (fail)
    go_wp2_with fail
    go_ret
    refine ⟨retB ?_, below_dn HB1.out _⟩
    symm
    rw [decide_eq_false_iff_not]; exact HN.out
  | some k =>
    have HN : Hid ((∃ c, some k = some c ∧ DualsZ (insOf r (siteD r)) T c zs) ↔ DualsZ (insOf r (siteD r)) T k zs) := ⟨fun ⟨c, h, h2⟩ => by cases h; exact h2, fun h => ⟨k, rfl, h⟩⟩
    dsimp only [Option.isSome_some, Option.getD_some] at h75 h76
    have HCW : Hid (∀ W, Below w1.heap.size w1 W → Calls Try.prog 71 #[.slice ao zs.length c] W fun e w' => e = .returned (.int .i64 zs.sum) ∧ w'.cell? ⟨p, 75, none⟩ = some (.bool true) ∧ w'.cell? ⟨p, 76, none⟩ = some (.int .i64 k) ∧ Hid (Below w1.heap.size w1 w')) := fun W hW => by
      refine (HSU.out W (HB1.out.trans (hW.mono HB1.out.size))).mono ?_
      rintro e w' ⟨h1, h2⟩
      have h3 : Below w1.heap.size w1 w' := hW.trans (h2.mono hW.size)
      exact ⟨h1, (h3.cell (by exact hpz)).trans h75, (h3.cell (by exact hpz)).trans h76, h3⟩
    by_cases hlen : zs.length = 2 * N
    · have b2 : ((zs.length : Int) != 2 * (N : Int)) = false := by simp; omega
      rw [hlen] at HCW
      by_cases hsum : zs.sum < k
      · have b3 : decide (zs.sum < k) = true := by simpa using hsum
        go_wp2_with fail
        go_region_held3 (fun w' => w'.cell? ⟨p, 75, none⟩ = some (.bool true) ∧ w'.cell? ⟨p, 76, none⟩ = some (.int .i64 k)) (go_keep) (first | (go_at_call 71; refine (HCW.out _ (by first | exact Below.refl _ _ | exact (Below.refl _ _).drew)).mono ?_; rintro e3 w3 ⟨rfl, x0, x1, HB3⟩))
        go_wp2_with fail
        go_ret
        refine ⟨retB ?_, HB1.out.trans (HB3.out.mono HB1.out.size)⟩
        symm
        rw [decide_eq_false_iff_not, HN.out, HDZ.out]
        exact fun h => by have := h.2.1; omega
      · have b3 : decide (zs.sum < k) = false := by simpa using hsum
        have HAL : Hid ((∀ i j, i < N → j < N → dualAt CC N zs i j) ↔ DualsZ (insOf r (siteD r)) T k zs) := by
          show _ ↔ _
          rw [HDZ.out]; exact ⟨fun h => ⟨hlen, by omega, h⟩, fun h => h.2.2⟩
        go_wp2_with fail
        go_region_held3 (fun w' => w'.cell? ⟨p, 75, none⟩ = some (.bool true) ∧ w'.cell? ⟨p, 76, none⟩ = some (.int .i64 k)) (go_keep) (first | (go_at_call 71; refine (HCW.out _ (by first | exact Below.refl _ _ | exact (Below.refl _ _).drew)).mono ?_; rintro e3 w3 ⟨rfl, x0, x1, HB3⟩))
        have HLE : Hid (zs.length = 2 * N) := hlen
        have HR3 := hid (HR.out.below (HB1.out.trans (HB3.out.mono HB1.out.size)))
        have HQ3 := hid (HQ1.out.below HB3.out)
        have HW3 : Hid (Below w.heap.size w w3) := HB1.out.trans (HB3.out.mono HB1.out.size)
        clear HCW HSU HR HQ1 HB3 HB1 h75 h76 x0 x1 b3 hsum hs2 HDZ
        go_wp2_with fail
        go_loopw [7] (fun i wr => ∃ a : Nat, i = .int .i64 a ∧ a ≤ N ∧ Hid (∀ i j, i < a → j < N → dualAt CC N zs i j) ∧ Hid (Below w3.heap.size w3 wr)) (fun i _ => N - (intOf i).toNat)
        case atStart => exact ⟨0, rfl, by omega, fun i j h => absurd h (by omega), by first | exact Below.refl _ _ | exact (Below.refl _ _).drew⟩
        case round =>
          obtain ⟨a, rfl, ha, HI, HB⟩ := hrel
          by_cases hlt : a < N
          · obtain ⟨ao', co', hv, hr3⟩ := HR3.out
            cases hv
            obtain ⟨g, hao, hgl, hza⟩ := hr3 a (by omega)
            subst hao
            obtain ⟨aq, cq, hvq, _, hq3⟩ := HQ3.out
            cases hvq
            obtain ⟨gq, gi, ci, hgq, hgql, hgc, hgil, hrow⟩ := hq3 a hlt
            cases hgq
            have HZ := hid hr3
            have HROW := hid hrow
            clear hr3 hq3 hrow
            go_wp2_with go_in
            go_loopw [8] (fun i wr => ∃ b : Nat, i = .int .i64 b ∧ b ≤ N ∧ Hid (∀ j, j < b → dualAt CC N zs a j) ∧ Hid (Below w3.heap.size w3 wr)) (fun i _ => N - (intOf i).toNat)
            case atStart => exact ⟨0, rfl, by omega, fun j h => absurd h (by omega), by first | exact HB.out | exact HB.out.drew⟩
            case round =>
              obtain ⟨b, rfl, hbN, HJ, HB2⟩ := hrel
              by_cases hlb : b < N
              · obtain ⟨g', hg', _, hzb⟩ := HZ.out (N + b) (by have := HLE.out; omega)
                cases hg'
                have y0 : wr.cell? ⟨g, a, none⟩ = _ := (HB2.out.cell (by exact hgl)).trans hza
                have y1 : wr.cell? ⟨g, N + b, none⟩ = _ := (HB2.out.cell (by exact hgl)).trans hzb
                have y2 : wr.cell? ⟨g1, a, none⟩ = _ := (HB2.out.cell (by exact hgql)).trans hgc
                have y3 : wr.cell? ⟨gi, b, none⟩ = _ := (HB2.out.cell (by exact hgil)).trans (HROW.out b hlb)
                have l1 : g < wr.heap.size := Nat.lt_of_lt_of_le hgl HB2.out.size
                have l2 : g1 < wr.heap.size := Nat.lt_of_lt_of_le hgql HB2.out.size
                have l3 : gi < wr.heap.size := Nat.lt_of_lt_of_le hgil HB2.out.size
                have ia : (0 : Int) ≤ (a : Int) := by omega
                have ja : (a : Int) < (N : Int) := by omega
                have ja2 : (a : Int) < 2 * (N : Int) := by omega
                have ja3 : (a : Int) < ((2 * N : Nat) : Int) := by omega
                have ib : (0 : Int) ≤ (b : Int) := by omega
                have jb : (b : Int) < (N : Int) := by omega
                have wn : IntKind.i64.wrap ((N : Int) + (b : Int)) = ((N + b : Nat) : Int) := by rw [i64_fits _ (by omega)]; omega
                have in1 : (0 : Int) ≤ ((N + b : Nat) : Int) := by omega
                have in2 : ((N + b : Nat) : Int) < ((2 * N : Nat) : Int) := by omega
                have in3 : (N : Int) + (b : Int) < 2 * (N : Int) := by omega
                have in4 : (0 : Int) ≤ (N : Int) + (b : Int) := by omega
                have hba := HZB.out _ (getD_mem (zs := zs) (j := a) (by have := HLE.out; omega))
                have hbb := HZB.out _ (getD_mem (zs := zs) (j := N + b) (by have := HLE.out; omega))
                have hcc := HCB.out a b
                have HDA : Hid (dualAt CC N zs a b ↔ (CC a b ≠ -1 → zs.getD a 0 + zs.getD (N + b) 0 ≤ CC a b)) := Iff.rfl
                generalize zs.getD a 0 = x at *
                generalize zs.getD (N + b) 0 = y at *
                obtain ⟨d, hd⟩ : ∃ d, d = CC a b := ⟨_, rfl⟩
                rw [← hd] at y3 hcc HDA
                have wxy : IntKind.i64.wrap (x + y) = x + y := i64_fits _ (by omega)
                clear hd hza hzb
                by_cases hc1 : d = -1
                · have c1 : (d != (-1 : Int)) = false := by simp [hc1]
                  have HG : Hid (dualAt CC N zs a b) := HDA.out.2 (fun h => absurd hc1 h)
                  clear hc1 HDA
                  go_wp2_with go_in
                  go_quiet (fail)
                  go_wp2_with go_in
                  refine ⟨⟨b + 1, by go_num, by omega, fun j hj => ?_, by first | exact below_dn HB2.out _ | exact HB2.out⟩, by simp [intOf]; omega⟩
                  by_cases hjb : j = b
                  · rw [hjb]; exact HG.out
                  · exact HJ.out j (by omega)
                · have c1 : (d != (-1 : Int)) = true := by simpa using hc1
                  by_cases hle : d < x + y
                  · have c2 : decide (d < x + y) = true := by simpa using hle
                    have HG : Hid (¬ dualAt CC N zs a b) := fun h => by have := HDA.out.1 h hc1; omega
                    clear hc1 HDA
                    go_wp2_with go_in
                    go_quiet (fail)
                    go_wp2_with go_in
                    go_ret
                    refine ⟨retB ?_, by first | exact HW3.out.trans ((below_dn HB2.out _).mono HW3.out.size) | exact HW3.out.trans (HB2.out.mono HW3.out.size)⟩
                    symm
                    rw [decide_eq_false_iff_not, HN.out, ← HAL.out]
                    exact fun h => HG.out (h a b hlt hlb)
                  · have c2 : decide (d < x + y) = false := by simpa using hle
                    have HG : Hid (dualAt CC N zs a b) := HDA.out.2 (fun _ => by omega)
                    clear hc1 HDA
                    go_wp2_with go_in
                    go_quiet (fail)
                    go_wp2_with go_in
                    refine ⟨⟨b + 1, by go_num, by omega, fun j hj => ?_, by first | exact below_dn HB2.out _ | exact HB2.out⟩, by simp [intOf]; omega⟩
                    by_cases hjb : j = b
                    · rw [hjb]; exact HG.out
                    · exact HJ.out j (by omega)
              · go_wp2_with go_in
                refine ⟨⟨a + 1, by go_num, by omega, fun i j hi hj => ?_, HB2.out⟩, by simp [intOf]; omega⟩
                by_cases hia : i = a
                · rw [hia]; exact HJ.out j (by omega)
                · exact HI.out i j (by omega) hj
          · go_wp2_with go_in
            go_ret
            refine ⟨retB ?_, HW3.out.trans (HB.out.mono HW3.out.size)⟩
            symm
            rw [decide_eq_true_eq, HN.out, ← HAL.out]
            exact fun i j hi hj => HI.out i j (by omega) hj
    · have b2 : ((zs.length : Int) != 2 * (N : Int)) = true := by simp; omega
      have HNL : Hid (¬ DualsZ (insOf r (siteD r)) T k zs) := fun h => hlen ((HDZ.out k).1 h).1
      clear hlen
      go_wp2_with fail
      go_quiet (fail)
      go_wp2_with fail
      go_ret
      refine ⟨retB ?_, below_dn HB1.out _⟩
      symm
      rw [decide_eq_false_iff_not, HN.out]; exact HNL.out
end Go.Proofs.Ytebinaopncclgab
