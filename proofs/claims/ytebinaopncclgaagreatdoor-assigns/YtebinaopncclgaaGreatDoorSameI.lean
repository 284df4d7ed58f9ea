/- Walks of the statements: the same instance? (where it is) -/
import Derived.Test.YtebinaopncclgaaGreatDoorRefI
import Derived.Deep.RegionHeld3
namespace Go.Proofs.YtebinaopncclgaaGreatDoor
open Go.RowKit Go.IntWalk

/- a list of structs of numbers: its cells, of whatever address -/
def Lies (w : World) (ao : Option Addr) (n size : Nat) (S : Nat → Nat → Int) : Prop :=
  0 < n → ∃ b o, ao = some ⟨b, o, none⟩ ∧ b < w.heap.size ∧ ∀ i j, i < n → j < size → w.cell? ⟨b, o + i * size + j, none⟩ = some (.int .i64 (S i j))
theorem Lies.below {w w' : World} {ao : Option Addr} {n size : Nat} {S : Nat → Nat → Int} (h : Lies w ao n size S) (hb : Below w.heap.size w w') : Lies w' ao n size S := fun hn => by
  obtain ⟨b, o, h1, h2, h3⟩ := h hn
  exact ⟨b, o, h1, Nat.lt_of_lt_of_le h2 hb.size, fun i j hi hj => (hb.cell (by exact h2)).trans (h3 i j hi hj)⟩

set_option maxRecDepth 100000 in
set_option maxHeartbeats 4000000 in
theorem sameI_any (X0 X1 X2 X3 X4 : Int) (S T : Nat → Nat → Int) (aos aor bos bor : Option Addr) (n m caps capr dcs dcr : Nat) (w : World) (hns : n ≤ maxLen) (hnr : m ≤ maxLen) (hs : Lies w aos n 5 S) (hr : Lies w aor m 3 T) (ks : Lies w bos n 5 S) (kr : Lies w bor m 3 T) :
    Calls Tryz.prog 23 #[.agg #[.int .i64 X0, .int .i64 X1, .int .i64 X2, .int .i64 X3, .int .i64 X4, .slice aos n caps, .slice aor m capr], .agg #[.int .i64 X0, .int .i64 X1, .int .i64 X2, .int .i64 X3, .int .i64 X4, .slice bos n dcs, .slice bor m dcr]] w fun e w' => e = .returned (.bool true) ∧ Below w.heap.size w w' := by
  unfold maxLen at hns hnr
  have HS := hide hs
  have HR := hide hr
  have KS := hide ks
  have KR := hide kr
  clear hs hr ks kr
  go_enter Tryz.func23, Tryz.ntmps23
  go_wp2_with fail
  generalize hWd : (w.alloc (.cells #[.int .i64 X0, .int .i64 X1, .int .i64 X2, .int .i64 X3, .int .i64 X4, .slice aos n caps, .slice aor m capr] 36)).alloc (.cells #[.int .i64 X0, .int .i64 X1, .int .i64 X2, .int .i64 X3, .int .i64 X4, .slice bos n dcs, .slice bor m dcr] 36) = W
  have hbel : Below w.heap.size w W := by rw [← hWd]; exact below2 w _ _
  have d5 : W.cell? ⟨w.heap.size, 5, none⟩ = some (.slice aos n caps) := by rw [← hWd]; simp [go_sem]
  have d6 : W.cell? ⟨w.heap.size, 6, none⟩ = some (.slice aor m capr) := by rw [← hWd]; simp [go_sem]
  have e5 : W.cell? ⟨w.heap.size + 1, 5, none⟩ = some (.slice bos n dcs) := by rw [← hWd]; simp [go_sem]
  have e6 : W.cell? ⟨w.heap.size + 1, 6, none⟩ = some (.slice bor m dcr) := by rw [← hWd]; simp [go_sem]
  have HBEL := hide hbel
  have D5 := hide d5
  have D6 := hide d6
  have E5 := hide e5
  have E6 := hide e6
  have hWs : w.heap.size + 2 = W.heap.size := by rw [← hWd]; simp
  clear hWd hbel d5 d6 e5 e6
  go_loopw [5] (fun i wr => ∃ k : Nat, i = .int .i64 k ∧ k ≤ n ∧ Hid (Below W.heap.size W wr)) (fun i _ => n - (intOf i).toNat)
  case atStart => exact ⟨0, rfl, by omega, Below.refl _ _⟩
  case round =>
    obtain ⟨k, rfl, hk, HV⟩ := hrel
    have hvs := HV.out.size
    have HB : Hid (Below w.heap.size w wr) := HBEL.out.trans (HV.out.mono (by omega))
    have d5 : wr.cell? ⟨w.heap.size, 5, none⟩ = some (.slice aos n caps) := (HV.out.cell (p := ⟨w.heap.size, 5, none⟩) (by show w.heap.size < _; omega)).trans D5.out
    have e5 : wr.cell? ⟨w.heap.size + 1, 5, none⟩ = some (.slice bos n dcs) := (HV.out.cell (p := ⟨w.heap.size + 1, 5, none⟩) (by show w.heap.size + 1 < _; omega)).trans E5.out
    by_cases hlt : k < n
    · obtain ⟨g, o, rfl, hgl, hc⟩ := HS.out (by omega)
      obtain ⟨h, u, rfl, hhl, kc⟩ := KS.out (by omega)
      have hcl : ∀ j, j < 5 → wr.cell? ⟨g, o + k * 5 + j, none⟩ = some (.int .i64 (S k j)) := fun j hj => (HB.out.cell (by exact hgl)).trans (hc k j hlt hj)
      have kcl : ∀ j, j < 5 → wr.cell? ⟨h, u + k * 5 + j, none⟩ = some (.int .i64 (S k j)) := fun j hj => (HB.out.cell (by exact hhl)).trans (kc k j hlt hj)
      clear hc kc
      have x0 : wr.cell? ⟨g, o + k * 5, none⟩ = some (.int .i64 (S k 0)) := hcl 0 (by omega)
      have x1 : wr.cell? ⟨g, o + k * 5 + 1, none⟩ = some (.int .i64 (S k 1)) := hcl 1 (by omega)
      have x2 : wr.cell? ⟨g, o + k * 5 + 2, none⟩ = some (.int .i64 (S k 2)) := hcl 2 (by omega)
      have x3 : wr.cell? ⟨g, o + k * 5 + 3, none⟩ = some (.int .i64 (S k 3)) := hcl 3 (by omega)
      have x4 : wr.cell? ⟨g, o + k * 5 + 4, none⟩ = some (.int .i64 (S k 4)) := hcl 4 (by omega)
      have y0 : wr.cell? ⟨h, u + k * 5, none⟩ = some (.int .i64 (S k 0)) := kcl 0 (by omega)
      have y1 : wr.cell? ⟨h, u + k * 5 + 1, none⟩ = some (.int .i64 (S k 1)) := kcl 1 (by omega)
      have y2 : wr.cell? ⟨h, u + k * 5 + 2, none⟩ = some (.int .i64 (S k 2)) := kcl 2 (by omega)
      have y3 : wr.cell? ⟨h, u + k * 5 + 3, none⟩ = some (.int .i64 (S k 3)) := kcl 3 (by omega)
      have y4 : wr.cell? ⟨h, u + k * 5 + 4, none⟩ = some (.int .i64 (S k 4)) := kcl 4 (by omega)
      clear hcl kcl
      generalize S k 0 = a at *
      generalize S k 1 = b at *
      generalize S k 2 = c at *
      generalize S k 3 = d at *
      generalize S k 4 = e at *
      go_wp2_with fail
      go_region_held3 (fun w' => w'.cell? ⟨w.heap.size, 5, none⟩ = some (.slice (some ⟨g, o, none⟩) n caps) ∧ w'.cell? ⟨w.heap.size + 1, 5, none⟩ = some (.slice (some ⟨h, u, none⟩) n dcs) ∧ w'.cell? ⟨g, o + k * 5, none⟩ = some (.int .i64 a) ∧ w'.cell? ⟨g, o + k * 5 + 1, none⟩ = some (.int .i64 b) ∧ w'.cell? ⟨g, o + k * 5 + 2, none⟩ = some (.int .i64 c) ∧ w'.cell? ⟨g, o + k * 5 + 3, none⟩ = some (.int .i64 d) ∧ w'.cell? ⟨g, o + k * 5 + 4, none⟩ = some (.int .i64 e) ∧ w'.cell? ⟨h, u + k * 5, none⟩ = some (.int .i64 a) ∧ w'.cell? ⟨h, u + k * 5 + 1, none⟩ = some (.int .i64 b) ∧ w'.cell? ⟨h, u + k * 5 + 2, none⟩ = some (.int .i64 c) ∧ w'.cell? ⟨h, u + k * 5 + 3, none⟩ = some (.int .i64 d) ∧ w'.cell? ⟨h, u + k * 5 + 4, none⟩ = some (.int .i64 e)) (go_keep) (fail)
      go_wp2
      go_roundw
      case rel => exact ⟨k + 1, by go_num, by omega, HV.out.drew⟩
      case measure => simp [intOf]; omega
    · go_wp2_with fail
      go_loopw [6] (fun i wr => ∃ k : Nat, i = .int .i64 k ∧ k ≤ m ∧ Hid (Below W.heap.size W wr)) (fun i _ => m - (intOf i).toNat)
      case atStart => exact ⟨0, rfl, by omega, HV⟩
      case round =>
        clear HV hvs HB d5 e5
        obtain ⟨q, rfl, hq, HV⟩ := hrel
        have hvs := HV.out.size
        have HB : Hid (Below w.heap.size w wr) := HBEL.out.trans (HV.out.mono (by omega))
        have d6 : wr.cell? ⟨w.heap.size, 6, none⟩ = some (.slice aor m capr) := (HV.out.cell (p := ⟨w.heap.size, 6, none⟩) (by show w.heap.size < _; omega)).trans D6.out
        have e6 : wr.cell? ⟨w.heap.size + 1, 6, none⟩ = some (.slice bor m dcr) := (HV.out.cell (p := ⟨w.heap.size + 1, 6, none⟩) (by show w.heap.size + 1 < _; omega)).trans E6.out
        by_cases hlt : q < m
        · obtain ⟨g, o, rfl, hgl, hc⟩ := HR.out (by omega)
          obtain ⟨h, u, rfl, hhl, kc⟩ := KR.out (by omega)
          have hcl : ∀ j, j < 3 → wr.cell? ⟨g, o + q * 3 + j, none⟩ = some (.int .i64 (T q j)) := fun j hj => (HB.out.cell (by exact hgl)).trans (hc q j hlt hj)
          have kcl : ∀ j, j < 3 → wr.cell? ⟨h, u + q * 3 + j, none⟩ = some (.int .i64 (T q j)) := fun j hj => (HB.out.cell (by exact hhl)).trans (kc q j hlt hj)
          clear hc kc
          have x0 : wr.cell? ⟨g, o + q * 3, none⟩ = some (.int .i64 (T q 0)) := hcl 0 (by omega)
          have x1 : wr.cell? ⟨g, o + q * 3 + 1, none⟩ = some (.int .i64 (T q 1)) := hcl 1 (by omega)
          have x2 : wr.cell? ⟨g, o + q * 3 + 2, none⟩ = some (.int .i64 (T q 2)) := hcl 2 (by omega)
          have y0 : wr.cell? ⟨h, u + q * 3, none⟩ = some (.int .i64 (T q 0)) := kcl 0 (by omega)
          have y1 : wr.cell? ⟨h, u + q * 3 + 1, none⟩ = some (.int .i64 (T q 1)) := kcl 1 (by omega)
          have y2 : wr.cell? ⟨h, u + q * 3 + 2, none⟩ = some (.int .i64 (T q 2)) := kcl 2 (by omega)
          clear hcl kcl
          generalize T q 0 = a at *
          generalize T q 1 = b at *
          generalize T q 2 = c at *
          go_wp2_with fail
          go_region_held3 (fun w' => w'.cell? ⟨w.heap.size, 6, none⟩ = some (.slice (some ⟨g, o, none⟩) m capr) ∧ w'.cell? ⟨w.heap.size + 1, 6, none⟩ = some (.slice (some ⟨h, u, none⟩) m dcr) ∧ w'.cell? ⟨g, o + q * 3, none⟩ = some (.int .i64 a) ∧ w'.cell? ⟨g, o + q * 3 + 1, none⟩ = some (.int .i64 b) ∧ w'.cell? ⟨g, o + q * 3 + 2, none⟩ = some (.int .i64 c) ∧ w'.cell? ⟨h, u + q * 3, none⟩ = some (.int .i64 a) ∧ w'.cell? ⟨h, u + q * 3 + 1, none⟩ = some (.int .i64 b) ∧ w'.cell? ⟨h, u + q * 3 + 2, none⟩ = some (.int .i64 c)) (go_keep) (fail)
          go_wp2
          go_roundw
          case rel => exact ⟨q + 1, by go_num, by omega, HV.out.drew⟩
          case measure => simp [intOf]; omega
        · go_wp2
          go_ret
          exact ⟨rfl, HB.out⟩
end Go.Proofs.YtebinaopncclgaaGreatDoor
