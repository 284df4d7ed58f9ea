/- Walks: what is wrong with a square that came in: the program's answer and the document's. -/
import Derived.Test.YtebinaopncclgaaGreatDoorABest
namespace Go.Proofs.YtebinaopncclgaaGreatDoor
open Go.RowKit Go.IntWalk

/- rows that came in: lists of lists -/
def LRowsZ (w : World) (ao : Option Addr) (n : Nat) (ra : Nat → Option Addr) (rn rc : Nat → Nat) (Q : Nat → Nat → Int) : Prop :=
  0 < n → ∃ b o, ao = some ⟨b, o, none⟩ ∧ b < w.heap.size ∧ ∀ i, i < n → w.cell? ⟨b, o + i, none⟩ = some (.slice (ra i) (rn i) (rc i)) ∧ rn i ≤ 9223372036854775807 ∧ (0 < rn i → ∃ b' o', ra i = some ⟨b', o', none⟩ ∧ b' < w.heap.size ∧ ∀ j, j < rn i → w.cell? ⟨b', o' + j, none⟩ = some (.int .i64 (Q i j)) ∧ -9223372036854775808 ≤ Q i j ∧ Q i j ≤ 9223372036854775807)
theorem LRowsZ.below {w w' : World} {ao : Option Addr} {n : Nat} {ra : Nat → Option Addr} {rn rc : Nat → Nat} {Q : Nat → Nat → Int} (h : LRowsZ w ao n ra rn rc Q) (hb : Below w.heap.size w w') : LRowsZ w' ao n ra rn rc Q := fun hn => by
  obtain ⟨b, o, h1, h2, h3⟩ := h hn
  refine ⟨b, o, h1, Nat.lt_of_lt_of_le h2 hb.size, fun i hi => ?_⟩
  obtain ⟨k1, k2, k3⟩ := h3 i hi
  refine ⟨(hb.cell (by exact h2)).trans k1, k2, fun hr => ?_⟩
  obtain ⟨b', o', m1, m2, m3⟩ := k3 hr
  exact ⟨b', o', m1, Nat.lt_of_lt_of_le m2 hb.size, fun j hj => ⟨(hb.cell (by exact m2)).trans (m3 j hj).1, (m3 j hj).2⟩⟩
def sqFault (n : Nat) (rn : Nat → Nat) (Q : Nat → Nat → Int) : Int :=
  if 10 < n then 12 else if ∀ i, i < n → rn i = n then (if ∀ i, i < n → ∀ j, j < n → -1 ≤ Q i j ∧ Q i j ≤ 200000 then 0 else 4) else 12
theorem sqFault_big {n : Nat} {rn : Nat → Nat} {Q : Nat → Nat → Int} (h : 10 < n) : sqFault n rn Q = 12 := if_pos h
theorem sqFault_row {n i : Nat} {rn : Nat → Nat} {Q : Nat → Nat → Int} (h : ¬ 10 < n) (hi : i < n) (hr : rn i ≠ n) : sqFault n rn Q = 12 := by
  unfold sqFault; rw [if_neg h, if_neg (fun hh => hr (hh i hi))]
theorem sqFault_cell {n i j : Nat} {rn : Nat → Nat} {Q : Nat → Nat → Int} (h : ¬ 10 < n) (hr : ∀ i, i < n → rn i = n) (hi : i < n) (hj : j < n) (hq : ¬ (-1 ≤ Q i j ∧ Q i j ≤ 200000)) : sqFault n rn Q = 4 := by
  unfold sqFault; rw [if_neg h, if_pos hr, if_neg (fun hh => hq (hh i hi j hj))]
theorem sqFault_ok {n : Nat} {rn : Nat → Nat} {Q : Nat → Nat → Int} (h : ¬ 10 < n) (hr : ∀ i, i < n → rn i = n) (hq : ∀ i, i < n → ∀ j, j < n → -1 ≤ Q i j ∧ Q i j ≤ 200000) : sqFault n rn Q = 0 := by
  unfold sqFault; rw [if_neg h, if_pos hr, if_pos hq]
theorem sqFault_is {n : Nat} {rn : Nat → Nat} {Q : Nat → Nat → Int} (h : sqFault n rn Q = 0) : n ≤ 10 ∧ (∀ i, i < n → rn i = n) ∧ CellOk n Q := by
  unfold sqFault at h
  by_cases h1 : 10 < n
  · rw [if_pos h1] at h; omega
  rw [if_neg h1] at h
  by_cases h2 : ∀ i, i < n → rn i = n
  · rw [if_pos h2] at h
    by_cases h3 : ∀ i, i < n → ∀ j, j < n → -1 ≤ Q i j ∧ Q i j ≤ 200000
    · exact ⟨by omega, h2, fun i j hi hj => h3 i hi j hj⟩
    · rw [if_neg h3] at h; omega
  · rw [if_neg h2] at h; omega

set_option maxRecDepth 100000 in
set_option maxHeartbeats 4000000 in
theorem cellFault_any (ao : Option Addr) (n c : Nat) (ra : Nat → Option Addr) (rn rc : Nat → Nat) (Q : Nat → Nat → Int) (w : World) (hlen : n ≤ 9223372036854775807) (hl : LRowsZ w ao n ra rn rc Q) :
    Calls Tryz.prog 133 #[.slice ao n c] w fun e w' => e = .returned (.int .i64 (sqFault n rn Q)) ∧ Below w.heap.size w w' := by
  have HL := hid hl
  obtain ⟨F, hF⟩ : ∃ F, F = sqFault n rn Q := ⟨_, rfl⟩
  rw [← hF]
  have HF := hid hF
  clear hl hF
  go_enter Tryz.func133, Tryz.ntmps133
  by_cases h10 : 10 < n
  · have h10' : (10 : Int) < (n : Int) := by omega
    go_wp2_with go_in
    go_ret
    exact ⟨by rw [HF.out, sqFault_big h10]; rfl, Below.refl _ _⟩
  have h10' : ¬ (10 : Int) < (n : Int) := by omega
  go_wp2_with go_in
  go_loopw [3] (fun i wr => ∃ k : Nat, k ≤ n ∧ i = .int .i64 k ∧ (∀ i, i < k → rn i = n) ∧ Hid (Below w.heap.size w wr)) (fun i _ => n - (intOf i).toNat)
  case atStart => exact ⟨0, Nat.zero_le _, rfl, fun i h => absurd h (by omega), Below.refl _ _⟩
  case round =>
    obtain ⟨k, hk, rfl, hall, HB⟩ := hrel
    by_cases hlt : k < n
    · obtain ⟨lb, lo, hla, hlb, hrow⟩ := HL.out (by omega)
      obtain ⟨hr0, hr1, hr2⟩ := hrow k hlt
      subst hla
      have x0 : wr.cell? ⟨lb, lo + k, none⟩ = _ := (HB.out.cell (by exact hlb)).trans hr0
      have x1 : lb < wr.heap.size := Nat.lt_of_lt_of_le hlb HB.out.size
      have ik : (0 : Int) ≤ (k : Int) := by omega
      have jk : (k : Int) < (n : Int) := by omega
      have HALL := hid hall
      clear hrow hr2 hall hr0
      by_cases hrn : rn k = n
      · have hrn' : (rn k : Int) = (n : Int) := by omega
        go_wp2_with go_in
        go_roundw
        case rel => exact ⟨k + 1, by omega, by go_num, fun i hi => by
          rcases Nat.lt_succ_iff_lt_or_eq.1 hi with h | h
          · exact HALL.out i h
          · rw [h]; exact hrn, by first | exact HB | exact HB.out.drew⟩
        case measure => simp [intOf]; omega
      · have hrn' : ¬ (rn k : Int) = (n : Int) := by omega
        go_wp2_with go_in
        go_ret
        exact ⟨by rw [HF.out, sqFault_row h10 hlt hrn]; rfl, by first | exact HB.out | exact HB.out.drew⟩
    · have HALL : Hid (∀ i, i < n → rn i = n) := fun i hi => hall i (by omega)
      clear hall
      obtain ⟨wa, hwa⟩ : ∃ wa, wa = wr := ⟨_, rfl⟩
      rw [← hwa] at HB
      go_wp2_with go_in
      rw [← hwa]
      clear hwa
      go_loopw [4] (fun i wr => ∃ k : Nat, k ≤ n ∧ i = .int .i64 k ∧ Hid (∀ i, i < k → ∀ j, j < n → -1 ≤ Q i j ∧ Q i j ≤ 200000) ∧ Hid (Below w.heap.size w wr)) (fun i _ => n - (intOf i).toNat)
      case atStart => exact ⟨0, Nat.zero_le _, rfl, fun i h => absurd h (by omega), HB⟩
      case round =>
        clear HB
        obtain ⟨k2, hk2, rfl, HC, HB⟩ := hrel
        by_cases hlt2 : k2 < n
        · obtain ⟨lb, lo, hla, hlb, hrow⟩ := HL.out (by omega)
          obtain ⟨hr0, hr1, hr2⟩ := hrow k2 hlt2
          obtain ⟨b', o', hra, hb', hcell⟩ := hr2 (by rw [HALL.out k2 hlt2]; omega)
          rw [HALL.out k2 hlt2] at hcell hr0
          have HCELL := hid hcell
          subst hla
          rw [hra] at hr0
          obtain ⟨wo, hwo⟩ : ∃ wo, wo = wr := ⟨_, rfl⟩
          rw [← hwo] at HB
          clear hrow hr2 hcell
          go_wp2_with fail
          rw [← hwo]
          clear hwo
          go_loopw [5] (fun i wr => ∃ k : Nat, k ≤ n ∧ i = .int .i64 k ∧ Hid (∀ j, j < k → -1 ≤ Q k2 j ∧ Q k2 j ≤ 200000) ∧ Hid (Below w.heap.size w wr)) (fun i _ => n - (intOf i).toNat)
          case atStart => exact ⟨0, Nat.zero_le _, rfl, fun i h => absurd h (by omega), HB⟩
          case round =>
            clear HB
            obtain ⟨j, hj, rfl, HD, HB⟩ := hrel
            have x0 : wr.cell? ⟨lb, lo + k2, none⟩ = _ := (HB.out.cell (by exact hlb)).trans hr0
            have x1 : lb < wr.heap.size := Nat.lt_of_lt_of_le hlb HB.out.size
            have x2 : b' < wr.heap.size := Nat.lt_of_lt_of_le hb' HB.out.size
            have ik : (0 : Int) ≤ (k2 : Int) := by omega
            have jk : (k2 : Int) < (n : Int) := by omega
            by_cases hlj : j < n
            · have x3 : wr.cell? ⟨b', o' + j, none⟩ = _ := (HB.out.cell (by exact hb')).trans (HCELL.out j hlj).1
              have hcb := (HCELL.out j hlj).2
              have ij : (0 : Int) ≤ (j : Int) := by omega
              have jj : (j : Int) < (n : Int) := by omega
              by_cases hq1 : Q k2 j < -1
              · go_wp2_with go_in
                go_ret
                exact ⟨by rw [HF.out, sqFault_cell h10 HALL.out hlt2 hlj (by omega)]; rfl, by first | exact HB.out | exact HB.out.drew | exact below_drewN' HB.out _⟩
              by_cases hq2 : 200000 < Q k2 j
              · go_wp2_with go_in
                go_ret
                exact ⟨by rw [HF.out, sqFault_cell h10 HALL.out hlt2 hlj (by omega)]; rfl, by first | exact HB.out | exact HB.out.drew | exact below_drewN' HB.out _⟩
              go_wp2_with go_in
              go_roundw
              case rel => exact ⟨j + 1, by omega, by go_num, fun i hi => by
                rcases Nat.lt_succ_iff_lt_or_eq.1 hi with h | h
                · exact HD.out i h
                · rw [h]; omega, by first | exact HB | exact HB.out.drew | exact below_drewN' HB.out _⟩
              case measure => simp [intOf]; omega
            · go_wp2_with go_in
              go_roundw
              case rel => exact ⟨k2 + 1, by omega, by go_num, fun i hi => by
                rcases Nat.lt_succ_iff_lt_or_eq.1 hi with h | h
                · exact HC.out i h
                · rw [h]; exact fun j' hj' => HD.out j' (by omega), by first | exact HB | exact HB.out.drew⟩
              case measure => simp [intOf]; omega
        · go_wp2_with go_in
          go_ret
          exact ⟨by rw [HF.out, sqFault_ok h10 HALL.out (fun i hi => HC.out i (by omega))]; rfl, HB.out⟩

set_option maxRecDepth 100000 in
set_option maxHeartbeats 4000000 in
theorem rsquare_any (ao : Option Addr) (n c : Nat) (ra : Nat → Option Addr) (rn rc : Nat → Nat) (Q : Nat → Nat → Int) (w : World) (hlen : n ≤ 9223372036854775807) (hl : LRowsZ w ao n ra rn rc Q) :
    Calls Tryz.prog 81 #[.slice ao n c] w fun e w' => e = .returned (.int .i64 (sqFault n rn Q)) ∧ Below w.heap.size w w' := by
  have HL := hid hl
  obtain ⟨F, hF⟩ : ∃ F, F = sqFault n rn Q := ⟨_, rfl⟩
  rw [← hF]
  have HF := hid hF
  clear hl hF
  go_enter Tryz.func81, Tryz.ntmps81
  by_cases h10 : 10 < n
  · have h10' : (10 : Int) < (n : Int) := by omega
    go_wp2_with go_in
    go_ret
    exact ⟨by rw [HF.out, sqFault_big h10]; rfl, Below.refl _ _⟩
  have h10' : ¬ (10 : Int) < (n : Int) := by omega
  go_wp2_with go_in
  go_loopw [3] (fun i wr => ∃ k : Nat, k ≤ n ∧ i = .int .i64 k ∧ (∀ i, i < k → rn i = n) ∧ Hid (Below w.heap.size w wr)) (fun i _ => n - (intOf i).toNat)
  case atStart => exact ⟨0, Nat.zero_le _, rfl, fun i h => absurd h (by omega), Below.refl _ _⟩
  case round =>
    obtain ⟨k, hk, rfl, hall, HB⟩ := hrel
    by_cases hlt : k < n
    · obtain ⟨lb, lo, hla, hlb, hrow⟩ := HL.out (by omega)
      obtain ⟨hr0, hr1, hr2⟩ := hrow k hlt
      subst hla
      have x0 : wr.cell? ⟨lb, lo + k, none⟩ = _ := (HB.out.cell (by exact hlb)).trans hr0
      have x1 : lb < wr.heap.size := Nat.lt_of_lt_of_le hlb HB.out.size
      have ik : (0 : Int) ≤ (k : Int) := by omega
      have jk : (k : Int) < (n : Int) := by omega
      have HALL := hid hall
      clear hrow hr2 hall hr0
      by_cases hrn : rn k = n
      · have hrn' : (rn k : Int) = (n : Int) := by omega
        go_wp2_with go_in
        go_roundw
        case rel => exact ⟨k + 1, by omega, by go_num, fun i hi => by
          rcases Nat.lt_succ_iff_lt_or_eq.1 hi with h | h
          · exact HALL.out i h
          · rw [h]; exact hrn, by first | exact HB | exact HB.out.drew⟩
        case measure => simp [intOf]; omega
      · have hrn' : ¬ (rn k : Int) = (n : Int) := by omega
        go_wp2_with go_in
        go_ret
        exact ⟨by rw [HF.out, sqFault_row h10 hlt hrn]; rfl, by first | exact HB.out | exact HB.out.drew⟩
    · have HALL : Hid (∀ i, i < n → rn i = n) := fun i hi => hall i (by omega)
      clear hall
      obtain ⟨wa, hwa⟩ : ∃ wa, wa = wr := ⟨_, rfl⟩
      rw [← hwa] at HB
      go_wp2_with go_in
      rw [← hwa]
      clear hwa
      go_loopw [4] (fun i wr => ∃ k : Nat, k ≤ n ∧ i = .int .i64 k ∧ Hid (∀ i, i < k → ∀ j, j < n → -1 ≤ Q i j ∧ Q i j ≤ 200000) ∧ Hid (Below w.heap.size w wr)) (fun i _ => n - (intOf i).toNat)
      case atStart => exact ⟨0, Nat.zero_le _, rfl, fun i h => absurd h (by omega), HB⟩
      case round =>
        clear HB
        obtain ⟨k2, hk2, rfl, HC, HB⟩ := hrel
        by_cases hlt2 : k2 < n
        · obtain ⟨lb, lo, hla, hlb, hrow⟩ := HL.out (by omega)
          obtain ⟨hr0, hr1, hr2⟩ := hrow k2 hlt2
          obtain ⟨b', o', hra, hb', hcell⟩ := hr2 (by rw [HALL.out k2 hlt2]; omega)
          rw [HALL.out k2 hlt2] at hcell hr0
          have HCELL := hid hcell
          subst hla
          rw [hra] at hr0
          obtain ⟨wo, hwo⟩ : ∃ wo, wo = wr := ⟨_, rfl⟩
          rw [← hwo] at HB
          clear hrow hr2 hcell
          go_wp2_with fail
          rw [← hwo]
          clear hwo
          go_loopw [5] (fun i wr => ∃ k : Nat, k ≤ n ∧ i = .int .i64 k ∧ Hid (∀ j, j < k → -1 ≤ Q k2 j ∧ Q k2 j ≤ 200000) ∧ Hid (Below w.heap.size w wr)) (fun i _ => n - (intOf i).toNat)
          case atStart => exact ⟨0, Nat.zero_le _, rfl, fun i h => absurd h (by omega), HB⟩
          case round =>
            clear HB
            obtain ⟨j, hj, rfl, HD, HB⟩ := hrel
            have x0 : wr.cell? ⟨lb, lo + k2, none⟩ = _ := (HB.out.cell (by exact hlb)).trans hr0
            have x1 : lb < wr.heap.size := Nat.lt_of_lt_of_le hlb HB.out.size
            have x2 : b' < wr.heap.size := Nat.lt_of_lt_of_le hb' HB.out.size
            have ik : (0 : Int) ≤ (k2 : Int) := by omega
            have jk : (k2 : Int) < (n : Int) := by omega
            by_cases hlj : j < n
            · have x3 : wr.cell? ⟨b', o' + j, none⟩ = _ := (HB.out.cell (by exact hb')).trans (HCELL.out j hlj).1
              have hcb := (HCELL.out j hlj).2
              have ij : (0 : Int) ≤ (j : Int) := by omega
              have jj : (j : Int) < (n : Int) := by omega
              by_cases hq1 : Q k2 j < -1
              · go_wp2_with go_in
                go_ret
                exact ⟨by rw [HF.out, sqFault_cell h10 HALL.out hlt2 hlj (by omega)]; rfl, by first | exact HB.out | exact HB.out.drew | exact below_drewN' HB.out _⟩
              by_cases hq2 : 200000 < Q k2 j
              · go_wp2_with go_in
                go_ret
                exact ⟨by rw [HF.out, sqFault_cell h10 HALL.out hlt2 hlj (by omega)]; rfl, by first | exact HB.out | exact HB.out.drew | exact below_drewN' HB.out _⟩
              go_wp2_with go_in
              go_roundw
              case rel => exact ⟨j + 1, by omega, by go_num, fun i hi => by
                rcases Nat.lt_succ_iff_lt_or_eq.1 hi with h | h
                · exact HD.out i h
                · rw [h]; omega, by first | exact HB | exact HB.out.drew | exact below_drewN' HB.out _⟩
              case measure => simp [intOf]; omega
            · go_wp2_with go_in
              go_roundw
              case rel => exact ⟨k2 + 1, by omega, by go_num, fun i hi => by
                rcases Nat.lt_succ_iff_lt_or_eq.1 hi with h | h
                · exact HC.out i h
                · rw [h]; exact fun j' hj' => HD.out j' (by omega), by first | exact HB | exact HB.out.drew⟩
              case measure => simp [intOf]; omega
        · go_wp2_with go_in
          go_ret
          exact ⟨by rw [HF.out, sqFault_ok h10 HALL.out (fun i hi => HC.out i (by omega))]; rfl, HB.out⟩
end Go.Proofs.YtebinaopncclgaaGreatDoor
