/- Walks: the document's looks at a match: sum, Under. -/
import Derived.Test.YtebinaopncclgaaGreatDoorAFault
namespace Go.Proofs.YtebinaopncclgaaGreatDoor
open Go.RowKit Go.IntWalk

/- a row of numbers, read -/
def IRow (w : World) (v : Value) (n : Nat) (f : Nat → Int) : Prop :=
  ∃ ao c, v = .slice ao n c ∧ ∀ j, j < n → ∃ b o, ao = some ⟨b, o, none⟩ ∧ b < w.heap.size ∧ w.cell? ⟨b, o + j, none⟩ = some (.int .i64 (f j))
theorem IRow.below {w w' : World} {v : Value} {n : Nat} {f : Nat → Int} (h : IRow w v n f) (hb : Below w.heap.size w w') : IRow w' v n f := by
  obtain ⟨ao, c, h1, h2⟩ := h
  refine ⟨ao, c, h1, fun j hj => ?_⟩
  obtain ⟨b, o, k1, k2, k3⟩ := h2 j hj
  exact ⟨b, o, k1, Nat.lt_of_lt_of_le k2 hb.size, (hb.cell (by exact k2)).trans k3⟩
theorem RowAt.irow {w : World} {g n c : Nat} {f : Nat → Int} (h : RowAt w g n f) : IRow w (.slice (some ⟨g, 0, none⟩) n c) n f :=
  ⟨_, _, rfl, fun j hj => ⟨g, 0, rfl, h.lt, by rw [Nat.zero_add]; exact h.cell hj⟩⟩
/- a square of numbers, read -/
def SqI (w : World) (v : Value) (n : Nat) (Q : Nat → Nat → Int) : Prop :=
  ∃ ao c, v = .slice ao n c ∧ n ≤ 10 ∧ ∀ i, i < n → ∃ b o b' o' ci, ao = some ⟨b, o, none⟩ ∧ b < w.heap.size ∧ w.cell? ⟨b, o + i, none⟩ = some (.slice (some ⟨b', o', none⟩) n ci) ∧ b' < w.heap.size ∧ ∀ j, j < n → w.cell? ⟨b', o' + j, none⟩ = some (.int .i64 (Q i j))
theorem SqI.below {w w' : World} {v : Value} {n : Nat} {Q : Nat → Nat → Int} (h : SqI w v n Q) (hb : Below w.heap.size w w') : SqI w' v n Q := by
  obtain ⟨ao, c, h1, h2, h3⟩ := h
  refine ⟨ao, c, h1, h2, fun i hi => ?_⟩
  obtain ⟨b, o, b', o', ci, k1, k2, k3, k4, k5⟩ := h3 i hi
  exact ⟨b, o, b', o', ci, k1, Nat.lt_of_lt_of_le k2 hb.size, (hb.cell (by exact k2)).trans k3, Nat.lt_of_lt_of_le k4 hb.size, fun j hj => (hb.cell (by exact k4)).trans (k5 j hj)⟩
theorem LRowsZ.sq {w : World} {ao : Option Addr} {n c : Nat} {ra : Nat → Option Addr} {rn rc : Nat → Nat} {Q : Nat → Nat → Int} (h : LRowsZ w ao n ra rn rc Q) (hn : n ≤ 10) (hr : ∀ i, i < n → rn i = n) : SqI w (.slice ao n c) n Q := by
  refine ⟨ao, c, rfl, hn, fun i hi => ?_⟩
  obtain ⟨b, o, h1, h2, h3⟩ := h (by omega)
  obtain ⟨k1, _, k3⟩ := h3 i hi
  obtain ⟨b', o', m1, m2, m3⟩ := k3 (by rw [hr i hi]; omega)
  rw [hr i hi] at k1 m3
  rw [m1] at k1
  exact ⟨b, o, b', o', rc i, h1, h2, k1, m2, fun j hj => (m3 j hj).1⟩

theorem sumL_bound {f : Nat → Int} {n : Nat} {M : Int} (h : ∀ j, j < n → -M ≤ f j ∧ f j ≤ M) : ∀ k, k ≤ n → -((k : Int) * M) ≤ sumL f (List.range k) ∧ sumL f (List.range k) ≤ (k : Int) * M := by
  intro k
  induction k with
  | zero => intro _; simp [sumL]
  | succ k ih =>
    intro hk
    obtain ⟨h1, h2⟩ := ih (by omega)
    have h3 := h k (by omega)
    rw [List.range_succ, sumL_append]
    simp only [sumL]
    have e : ((k + 1 : Nat) : Int) * M = (k : Int) * M + M := by rw [Int.natCast_add, Int.add_mul]; simp
    omega
theorem sumL_next (f : Nat → Int) (k : Nat) : sumL f (List.range (k + 1)) = sumL f (List.range k) + f k := by
  rw [List.range_succ, sumL_append]; simp [sumL]

set_option maxRecDepth 100000 in
set_option maxHeartbeats 4000000 in
theorem rsum_any (v : Value) (n : Nat) (f : Nat → Int) (w : World) (hn : n ≤ 10) (hr : IRow w v n f) (hbd : ∀ j, j < n → -100000000 ≤ f j ∧ f j ≤ 100000000) :
    Calls Tryz.prog 85 #[v] w fun e w' => e = .returned (.tuple #[.int .i64 (sumL f (List.range n)), .bool true]) ∧ Below w.heap.size w w' := by
  obtain ⟨ao, c, rfl, hr⟩ := hr
  have HR := hid hr
  have HBD := hid hbd
  have HS := hid (sumL_bound hbd)
  clear hr hbd
  go_enter Tryz.func85, Tryz.ntmps85
  go_wp2_with fail
  go_loopw [4, 5] (fun s i wr => ∃ k : Nat, k ≤ n ∧ i = .int .i64 k ∧ s = .int .i64 (sumL f (List.range k)) ∧ Hid (Below w.heap.size w wr)) (fun _ i _ => n - (intOf i).toNat)
  case atStart => exact ⟨0, Nat.zero_le _, rfl, rfl, Below.refl _ _⟩
  case round =>
    obtain ⟨k, hk, rfl, rfl, HB⟩ := hrel
    by_cases hlt : k < n
    · obtain ⟨b, o, hao, hbl, hcl⟩ := HR.out k hlt
      subst hao
      have x0 : wr.cell? ⟨b, o + k, none⟩ = _ := (HB.out.cell (by exact hbl)).trans hcl
      have x1 : b < wr.heap.size := Nat.lt_of_lt_of_le hbl HB.out.size
      have ik : (0 : Int) ≤ (k : Int) := by omega
      have jk : (k : Int) < (n : Int) := by omega
      have hf := HBD.out k hlt
      have hs := HS.out k hk
      have hs1 : -1000000000 ≤ sumL f (List.range k) ∧ sumL f (List.range k) ≤ 1000000000 := by omega
      have w1 : IntKind.i64.wrap (sumL f (List.range k) + f k) = sumL f (List.range k) + f k := i64_fits _ (by omega)
      have HN := hid (sumL_next f k)
      clear hcl hs
      go_wp2_with go_in
      go_roundw
      case rel => exact ⟨k + 1, by omega, by go_num, by rw [HN.out], by first | exact HB | exact HB.out.drew⟩
      case measure => simp [intOf]; omega
    · obtain rfl : k = n := by omega
      go_wp2_with go_in
      refine bodyPost_ret (v := .tuple #[.int .i64 (sumL f (List.range k)), .bool true]) (by simp [results, Tryz.results85, go_sem]) rfl ?_
      exact ⟨rfl, HB.out⟩

set_option maxRecDepth 100000 in
set_option maxHeartbeats 4000000 in
theorem runder_any (vc vu vv : Value) (n : Nat) (C : Nat → Nat → Int) (u v : Nat → Int) (w : World) (hsq : SqI w vc n C) (hu : IRow w vu n u) (hv : IRow w vv n v) (hub : ∀ i, i < n → -100000000 ≤ u i ∧ u i ≤ 100000000) (hvb : ∀ i, i < n → -100000000 ≤ v i ∧ v i ≤ 100000000)
    (hle : ∀ i j, i < n → j < n → C i j ≠ -1 → u i + v j ≤ C i j) :
    Calls Tryz.prog 86 #[vc, vu, vv] w fun e w' => e = .returned (.bool true) ∧ Below w.heap.size w w' := by
  obtain ⟨ao, c, rfl, hn, hq⟩ := hsq
  obtain ⟨au, cu, rfl, hu⟩ := hu
  obtain ⟨av, cv, rfl, hv⟩ := hv
  have HQ := hid hq
  have HU := hid hu
  have HV := hid hv
  have HUB := hid hub
  have HVB := hid hvb
  have HLE := hid hle
  clear hq hu hv hub hvb hle
  go_enter Tryz.func86, Tryz.ntmps86
  go_wp2_with fail
  go_loopw [7] (fun i wr => ∃ k : Nat, k ≤ n ∧ i = .int .i64 k ∧ Hid (Below w.heap.size w wr)) (fun i _ => n - (intOf i).toNat)
  case atStart => exact ⟨0, Nat.zero_le _, rfl, Below.refl _ _⟩
  case round =>
    obtain ⟨k, hk, rfl, HB⟩ := hrel
    by_cases hlt : k < n
    · obtain ⟨b, o, b', o', ci, hao, hbl, hcl, hbl', hrow⟩ := HQ.out k hlt
      obtain ⟨bu, ou, hau, hbu, hcu⟩ := HU.out k hlt
      subst hao
      subst hau
      have HROW := hid hrow
      have hub := HUB.out k hlt
      obtain ⟨wo, hwo⟩ : ∃ wo, wo = wr := ⟨_, rfl⟩
      rw [← hwo] at HB
      clear hrow
      go_wp2_with go_in
      rw [← hwo]
      clear hwo
      go_loopw [8] (fun i wr => ∃ k : Nat, k ≤ n ∧ i = .int .i64 k ∧ Hid (Below w.heap.size w wr)) (fun i _ => n - (intOf i).toNat)
      case atStart => exact ⟨0, Nat.zero_le _, rfl, HB⟩
      case round =>
        clear HB
        obtain ⟨j, hj, rfl, HB⟩ := hrel
        have x0 : wr.cell? ⟨b, o + k, none⟩ = _ := (HB.out.cell (by exact hbl)).trans hcl
        have x1 : b < wr.heap.size := Nat.lt_of_lt_of_le hbl HB.out.size
        have x2 : b' < wr.heap.size := Nat.lt_of_lt_of_le hbl' HB.out.size
        have x4 : wr.cell? ⟨bu, ou + k, none⟩ = _ := (HB.out.cell (by exact hbu)).trans hcu
        have x5 : bu < wr.heap.size := Nat.lt_of_lt_of_le hbu HB.out.size
        have ik : (0 : Int) ≤ (k : Int) := by omega
        have jk : (k : Int) < (n : Int) := by omega
        by_cases hlj : j < n
        · obtain ⟨bv, ov, hav, hbv, hcv⟩ := HV.out j hlj
          have x3 : wr.cell? ⟨b', o' + j, none⟩ = _ := (HB.out.cell (by exact hbl')).trans (HROW.out j hlj)
          subst hav
          have x6 : wr.cell? ⟨bv, ov + j, none⟩ = _ := (HB.out.cell (by exact hbv)).trans hcv
          have x7 : bv < wr.heap.size := Nat.lt_of_lt_of_le hbv HB.out.size
          have ij : (0 : Int) ≤ (j : Int) := by omega
          have jj : (j : Int) < (n : Int) := by omega
          have hvb := HVB.out j hlj
          have hl := HLE.out k j hlt hlj
          clear hcv
          by_cases hc1 : C k j = -1
          · have c1 : (C k j != (-1 : Int)) = false := by simp [hc1]
            clear hl hc1
            go_wp2_with go_in
            go_quiet (fail)
            go_wp2_with go_in
            go_roundw
            case rel => exact ⟨j + 1, by omega, by go_num, by first | exact HB | exact HB.out.drew | exact below_drewN' HB.out _⟩
            case measure => simp [intOf]; omega
          · have hl' := hl hc1
            have c1 : (C k j != (-1 : Int)) = true := by simpa using hc1
            have w1 : IntKind.i64.wrap (u k + v j) = u k + v j := i64_fits _ (by omega)
            have c2 : ¬ (C k j < u k + v j) := by omega
            clear hl hc1
            go_wp2_with go_in
            go_quiet (fail)
            go_wp2_with go_in
            go_roundw
            case rel => exact ⟨j + 1, by omega, by go_num, by first | exact HB | exact HB.out.drew | exact below_drewN' HB.out _⟩
            case measure => simp [intOf]; omega
        · go_wp2_with go_in
          go_roundw
          case rel => exact ⟨k + 1, by omega, by go_num, by first | exact HB | exact HB.out.drew⟩
          case measure => simp [intOf]; omega
    · go_wp2_with go_in
      go_ret
      exact ⟨rfl, HB.out⟩
end Go.Proofs.YtebinaopncclgaaGreatDoor
