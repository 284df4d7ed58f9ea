/- Walks: the document's look at rows that have too few columns: Short. -/
import Derived.Test.YtebinaopncclgaaGreatDoorLSum
namespace Go.Proofs.YtebinaopncclgaaGreatDoor
open Go.RowKit Go.IntWalk

/- how many of the first k columns some row can take: the document counts them column by column -/
def hitN (C : Nat → Nat → Int) (r : Nat → Nat) (j : Nat) : Nat → Bool
  | 0 => false
  | i + 1 => hitN C r j i || decide (C (r i) j ≠ -1)
theorem hitN_yes {C : Nat → Nat → Int} {r : Nat → Nat} {j i : Nat} (h : C (r i) j ≠ -1) : hitN C r j (i + 1) = true := by
  unfold hitN; simp [h]
theorem hitN_no {C : Nat → Nat → Int} {r : Nat → Nat} {j i : Nat} (h : C (r i) j = -1) : hitN C r j (i + 1) = hitN C r j i := by
  show (hitN C r j i || decide (C (r i) j ≠ -1)) = hitN C r j i; simp [h]
theorem hitN_is {C : Nat → Nat → Int} {r : Nat → Nat} {j : Nat} : ∀ m, hitN C r j m = true → ∃ i, i < m ∧ C (r i) j ≠ -1 := by
  intro m
  induction m with
  | zero => intro h; cases h
  | succ m ih =>
    intro h
    by_cases e : C (r m) j = -1
    · rw [hitN_no e] at h
      obtain ⟨i, h1, h2⟩ := ih h
      exact ⟨i, by omega, h2⟩
    · exact ⟨m, by omega, e⟩
def b01 (b : Bool) : Int := if b = true then 1 else 0
theorem b01_le (b : Bool) : 0 ≤ b01 b ∧ b01 b ≤ 1 := by cases b <;> decide
def colsN (C : Nat → Nat → Int) (r : Nat → Nat) (m : Nat) (k : Nat) : Nat := dnN k fun j => hitN C r j m
theorem cols_next (C : Nat → Nat → Int) (r : Nat → Nat) (m k : Nat) : (colsN C r m (k + 1) : Int) = colsN C r m k + b01 (hitN C r k m) := by
  unfold colsN dnN
  rw [List.range_succ, List.filter_append, List.length_append]
  cases h : hitN C r k m
  · simp [h, b01]
  · simp [h, b01]
theorem cols_le (C : Nat → Nat → Int) (r : Nat → Nat) (m k : Nat) : colsN C r m k ≤ k := dnN_le k _

set_option maxRecDepth 100000 in
set_option maxHeartbeats 4000000 in
theorem rshort_any (vc vr : Value) (n m : Nat) (C : Nat → Nat → Int) (r : Nat → Nat) (w : World) (hmn : m ≤ n) (hsq : SqI w vc n C) (hr : IRow w vr m fun i => (r i : Int)) (hlt : ∀ i, i < m → r i < n) (hris : ∀ i, i + 1 < m → r i < r (i + 1)) (hfew : colsN C r m n < m) :
    Calls Tryz.prog 83 #[vc, vr] w fun e w' => e = .returned (.bool true) ∧ Below w.heap.size w w' := by
  obtain ⟨ao, c, rfl, hn, hq⟩ := hsq
  obtain ⟨ar, cr, rfl, hr⟩ := hr
  have HQ := hid hq
  have HR := hid hr
  have HM := hid hlt
  have HI := hid hris
  have hfi : (colsN C r m n : Int) < (m : Int) := by omega
  clear hq hr hlt hris hfew
  go_enter Tryz.func83, Tryz.ntmps83
  go_wp2_with fail
  go_loopw [5, 6] (fun s j wr => ∃ k : Nat, k ≤ n ∧ j = .int .i64 k ∧ s = .int .i64 (colsN C r m k) ∧ Hid (Below w.heap.size w wr)) (fun _ j _ => n - (intOf j).toNat)
  case atStart => exact ⟨0, Nat.zero_le _, rfl, rfl, Below.refl _ _⟩
  case round =>
    obtain ⟨k, hk, rfl, rfl, HB⟩ := hrel
    by_cases hlt : k < n
    · obtain ⟨wo, hwo⟩ : ∃ wo, wo = wr := ⟨_, rfl⟩
      rw [← hwo] at HB
      have HNX := hid (cols_next C r m k)
      have hcl := cols_le C r m k
      go_wp2_with go_in
      rw [← hwo]
      clear hwo
      go_loopw [7, 8] (fun h i wr => ∃ q : Nat, q ≤ m ∧ i = .int .i64 q ∧ h = .int .i64 (b01 (hitN C r k q)) ∧ Hid (Below w.heap.size w wr)) (fun _ i _ => m - (intOf i).toNat)
      case atStart => exact ⟨0, Nat.zero_le _, rfl, rfl, HB⟩
      case round =>
        clear HB
        obtain ⟨q, hq, rfl, rfl, HB⟩ := hrel
        by_cases hlq : q < m
        · obtain ⟨rb, ro, har, hrb, hrc⟩ := HR.out q hlq
          subst har
          obtain ⟨x, hx⟩ : ∃ x, x = r q := ⟨_, rfl⟩
          have x0 : wr.cell? ⟨rb, ro + q, none⟩ = _ := (HB.out.cell (by exact hrb)).trans hrc
          have x1 : rb < wr.heap.size := Nat.lt_of_lt_of_le hrb HB.out.size
          have hxn := HM.out q hlq
          have HYES := hid (hitN_yes (C := C) (r := r) (j := k) (i := q))
          have HNO := hid (hitN_no (C := C) (r := r) (j := k) (i := q))
          have hpre : q = 0 ∨ ∃ q' x' : Nat, q = q' + 1 ∧ x' < x ∧ wr.cell? ⟨rb, ro + q', none⟩ = some (.int .i64 x') := by
            by_cases h : q = 0
            · exact .inl h
            · right
              obtain ⟨q', rfl⟩ : ∃ q', q = q' + 1 := ⟨q - 1, by omega⟩
              obtain ⟨rb', ro', h1, h2, h3⟩ := HR.out q' (by omega)
              cases h1
              exact ⟨q', r q', rfl, by rw [hx]; exact HI.out q' hlq, (HB.out.cell (by exact hrb)).trans h3⟩
          rw [← hx] at x0 hxn HYES HNO
          obtain ⟨b, o, b', o', ci, hao, hbl, hcl2, hbl', hrow⟩ := HQ.out x hxn
          subst hao
          have x2 : wr.cell? ⟨b, o + x, none⟩ = _ := (HB.out.cell (by exact hbl)).trans hcl2
          have x3 : b < wr.heap.size := Nat.lt_of_lt_of_le hbl HB.out.size
          have x4 : wr.cell? ⟨b', o' + k, none⟩ = _ := (HB.out.cell (by exact hbl')).trans (hrow k hlt)
          have x5 : b' < wr.heap.size := Nat.lt_of_lt_of_le hbl' HB.out.size
          have iq : (0 : Int) ≤ (q : Int) := by omega
          have jq : (q : Int) < (m : Int) := by omega
          have ix : (0 : Int) ≤ (x : Int) := by omega
          have jx : (x : Int) < (n : Int) := by omega
          have ik : (0 : Int) ≤ (k : Int) := by omega
          have jk : (k : Int) < (n : Int) := by omega
          have d1 : decide ((x : Int) < 0) = false := by simp
          have d2 : decide (n ≤ x) = false := by simp; omega
          clear hrow hcl2 hrc hx
          rcases hpre with hq0 | ⟨q', x', hq', hxx, x6⟩
          · have d3 : decide (0 < q) = false := by simp; omega
            clear hq0
            by_cases hc1 : C x k = -1
            · have c1 : (C x k != (-1 : Int)) = false := by simp [hc1]
              have HE := hid (HNO.out hc1)
              clear hc1 HNO HYES
              go_wp2_with go_in
              go_quiet (fail)
              go_wp2_with go_in
              go_roundw
              case rel => exact ⟨q + 1, by omega, by go_num, by rw [HE.out], by first | exact HB | exact HB.out.drew | exact below_drewN' HB.out _⟩
              case measure => simp [intOf]; omega
            · have c1 : (C x k != (-1 : Int)) = true := by simpa using hc1
              have HE := hid (HYES.out hc1)
              clear hc1 HNO HYES
              go_wp2_with go_in
              go_quiet (fail)
              go_wp2_with go_in
              go_roundw
              case rel => exact ⟨q + 1, by omega, by go_num, by rw [HE.out]; rfl, by first | exact HB | exact HB.out.drew | exact below_drewN' HB.out _⟩
              case measure => simp [intOf]; omega
          · subst hq'
            have d4 : decide (x ≤ x') = false := by simp; omega
            have hqw : IntKind.i64.wrap (((q' + 1 : Nat) : Int) - 1) = (q' : Int) := by rw [i64_fits _ (by omega)]; omega
            have iq' : (0 : Int) ≤ (q' : Int) := by omega
            have jq' : (q' : Int) < (m : Int) := by omega
            have hxi : (x' : Int) < (x : Int) := by omega
            by_cases hc1 : C x k = -1
            · have c1 : (C x k != (-1 : Int)) = false := by simp [hc1]
              have HE := hid (HNO.out hc1)
              clear hc1 HNO HYES
              go_wp2_with go_in
              go_quiet (fail)
              go_wp2_with go_in
              go_roundw
              case rel => exact ⟨q' + 1 + 1, by omega, by go_num, by rw [HE.out], by first | exact HB | exact HB.out.drew | exact below_drewN' HB.out _⟩
              case measure => simp [intOf]; omega
            · have c1 : (C x k != (-1 : Int)) = true := by simpa using hc1
              have HE := hid (HYES.out hc1)
              clear hc1 HNO HYES
              go_wp2_with go_in
              go_quiet (fail)
              go_wp2_with go_in
              go_roundw
              case rel => exact ⟨q' + 1 + 1, by omega, by go_num, by rw [HE.out]; rfl, by first | exact HB | exact HB.out.drew | exact below_drewN' HB.out _⟩
              case measure => simp [intOf]; omega
        · obtain rfl : q = m := by omega
          have hb := b01_le (hitN C r k q)
          have w1 : IntKind.i64.wrap ((colsN C r q k : Int) + b01 (hitN C r k q)) = (colsN C r q k : Int) + b01 (hitN C r k q) := i64_fits _ (by omega)
          go_wp2_with go_in
          go_roundw
          case rel => exact ⟨k + 1, by omega, by go_num, by rw [HNX.out], by first | exact HB | exact HB.out.drew⟩
          case measure => simp [intOf]; omega
    · obtain rfl : k = n := by omega
      go_wp2_with go_in
      go_ret
      exact ⟨by first | rfl | simp [hfi], HB.out⟩
end Go.Proofs.YtebinaopncclgaaGreatDoor
