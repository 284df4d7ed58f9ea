/- Walks: lists of numbers that a ground looks at. -/
import Derived.Test.YtebinaopncclgabGreatDoorTRead
import Derived.Test.YtebinaopncclgabGreatDoorQCell
import Derived.BigQuiet
namespace Go.Proofs.YtebinaopncclgabGreatDoor
open Go.RowKit Go.IntWalk

theorem below_dn {B : Nat} {w w' : World} (h : Below B w w') (m : Nat) : Below B w (w'.drewN m) := ⟨h.os, h.tape, h.output, h.size, h.block⟩
def ListR (w : World) (v : Value) (zs : List Int) : Prop :=
  ∃ ao c, v = .slice ao zs.length c ∧ ∀ j, j < zs.length → ∃ g, ao = some ⟨g, 0, none⟩ ∧ g < w.heap.size ∧ w.cell? ⟨g, j, none⟩ = some (.int .i64 (zs.getD j 0))
theorem ListR.below {w w' : World} {v : Value} {zs : List Int} (h : ListR w v zs) (hb : Below w.heap.size w w') : ListR w' v zs := by
  obtain ⟨ao, c, rfl, h⟩ := h
  refine ⟨ao, c, rfl, fun j hj => ?_⟩
  obtain ⟨g, h1, h2, h3⟩ := h j hj
  exact ⟨g, h1, Nat.lt_of_lt_of_le h2 hb.size, (hb.cell h2).trans h3⟩
theorem ListR.own {w : World} {B : Nat} {v : Value} {zs : List Int} (h : w.ownsRow B 3 1 v zs.length (ints zs)) : ListR w v zs := by
  obtain ⟨ao, c, rfl, h1, h2⟩ := own_val h
  refine ⟨ao, c, rfl, fun j hj => ?_⟩
  cases ao with
  | none => exact absurd (h2 rfl) (by omega)
  | some a =>
    obtain ⟨g, rfl, _, hg⟩ := h1 a rfl
    refine ⟨g, rfl, hg, ?_⟩
    rw [h.cellAt j (by omega)]
    simp [ints, List.getD_eq_getElem?_getD, List.getElem?_eq_getElem hj]
theorem sum_bound {zs : List Int} (h : ∀ z ∈ zs, -100000000 ≤ z ∧ z ≤ 100000000) : -100000000 * (zs.length : Int) ≤ zs.sum ∧ zs.sum ≤ 100000000 * (zs.length : Int) := by
  induction zs with
  | nil => simp
  | cons z zs ih =>
    have h1 := h z (by simp)
    have h2 := ih (fun y hy => h y (List.mem_cons_of_mem _ hy))
    simp only [List.sum_cons, List.length_cons]
    push_cast
    omega
theorem getD_mem {zs : List Int} {j : Nat} (h : j < zs.length) : zs.getD j 0 ∈ zs := by
  rw [List.getD_eq_getElem?_getD, List.getElem?_eq_getElem h, Option.getD_some]; exact List.getElem_mem h
theorem take_sum {zs : List Int} {k : Nat} (h : k < zs.length) : (zs.take (k + 1)).sum = (zs.take k).sum + zs.getD k 0 := by
  rw [List.take_succ_eq_append_getElem h, List.sum_append, List.getD_eq_getElem?_getD, List.getElem?_eq_getElem h]; simp

set_option maxRecDepth 100000 in
set_option maxHeartbeats 2000000 in
theorem gsum_any (v : Value) (zs : List Int) (w : World) (hl : zs.length ≤ 20) (hr : ListR w v zs) (hb : ∀ z ∈ zs, -100000000 ≤ z ∧ z ≤ 100000000) :
    Calls Tryz.prog 232 #[v] w fun e w' => e = .returned (.int .i64 zs.sum) ∧ Below w.heap.size w w' := by
  obtain ⟨ao, c, rfl, hr⟩ := hr
  have HR := hid hr
  have HBD := hid hb
  clear hr hb
  go_enter Tryz.func232, Tryz.ntmps232
  go_wp2_with fail
  go_loopw [3, 4] (fun s i wr => ∃ k : Nat, k ≤ zs.length ∧ i = .int .i64 k ∧ s = .int .i64 (zs.take k).sum ∧ Hid (Below w.heap.size w wr)) (fun _ i _ => zs.length - (intOf i).toNat)
  case atStart => exact ⟨0, Nat.zero_le _, rfl, by simp, Below.refl _ _⟩
  case round =>
    obtain ⟨k, hk, rfl, rfl, HB⟩ := hrel
    by_cases hlt : k < zs.length
    · obtain ⟨g, hao, hbl, hcl⟩ := HR.out k hlt
      subst hao
      have x0 : wr.cell? ⟨g, k, none⟩ = _ := (HB.out.cell (by exact hbl)).trans hcl
      have x1 : g < wr.heap.size := Nat.lt_of_lt_of_le hbl HB.out.size
      have ik : (0 : Int) ≤ (k : Int) := by omega
      have jk : (k : Int) < (zs.length : Int) := by omega
      have hf := HBD.out _ (getD_mem hlt)
      have hs := sum_bound (zs := zs.take k) (fun z hz => HBD.out z (List.mem_of_mem_take hz))
      have hs1 : -2000000000 ≤ (zs.take k).sum ∧ (zs.take k).sum ≤ 2000000000 := by have := List.length_take_le k zs; simp at hs; omega
      have w1 : IntKind.i64.wrap ((zs.take k).sum + zs.getD k 0) = (zs.take k).sum + zs.getD k 0 := i64_fits _ (by omega)
      have HN := hid (take_sum hlt)
      clear hcl hs
      generalize zs.getD k 0 = z at *
      go_wp2_with go_in
      go_roundw
      case rel => exact ⟨k + 1, by omega, by go_num, by rw [HN.out], by first | exact HB | exact HB.out.drew⟩
      case measure => simp [intOf]; omega
    · go_wp2_with go_in
      go_ret
      exact ⟨ret_int (by rw [List.take_of_length_le (by omega)]), HB.out⟩

def twiceP (zs : List Int) (i k : Nat) : Prop := zs.getD i 0 = zs.getD k 0 ∧ zs.getD i 0 ≠ 0
open Classical in
set_option maxRecDepth 100000 in
set_option maxHeartbeats 2000000 in
theorem hasTwice_any (v : Value) (zs : List Int) (w : World) (hl : zs.length ≤ 20) (hr : ListR w v zs) :
    Calls Tryz.prog 227 #[v] w fun e w' => e = .returned (.bool (decide (∃ i k, i < zs.length ∧ k < i ∧ twiceP zs i k))) ∧ Below w.heap.size w w' := by
  obtain ⟨ao, c, rfl, hr⟩ := hr
  have HR := hid hr
  clear hr
  go_enter Tryz.func227, Tryz.ntmps227
  go_wp2_with fail
  go_loopw [3] (fun i wr => ∃ a : Nat, i = .int .i64 a ∧ a ≤ zs.length ∧ Hid (∀ i k, i < a → k < i → ¬ twiceP zs i k) ∧ Hid (Below w.heap.size w wr)) (fun i _ => zs.length - (intOf i).toNat)
  case atStart => exact ⟨0, rfl, by omega, fun i k h => absurd h (by omega), Below.refl _ _⟩
  case round =>
    obtain ⟨a, rfl, ha, HN, HB⟩ := hrel
    by_cases hlt : a < zs.length
    · obtain ⟨g, hao, hgl, hca⟩ := HR.out a hlt
      subst hao
      go_wp2_with fail
      go_loopw [4] (fun i wr => ∃ b : Nat, i = .int .i64 b ∧ b ≤ a ∧ Hid (∀ k, k < b → ¬ twiceP zs a k) ∧ Hid (Below w.heap.size w wr)) (fun i _ => a - (intOf i).toNat)
      case atStart => exact ⟨0, rfl, by omega, fun k h => absurd h (by omega), by first | exact HB.out | exact HB.out.drew⟩
      case round =>
        obtain ⟨b, rfl, hb, HN2, HB2⟩ := hrel
        by_cases hlb : b < a
        · obtain ⟨g', hao', hgl', hcb⟩ := HR.out b (by omega)
          cases hao'
          have x0 : wr.cell? ⟨g, a, none⟩ = _ := (HB2.out.cell (by exact hgl)).trans hca
          have x1 : wr.cell? ⟨g, b, none⟩ = _ := (HB2.out.cell (by exact hgl)).trans hcb
          have xl : g < wr.heap.size := Nat.lt_of_lt_of_le hgl HB2.out.size
          have ia : (0 : Int) ≤ (a : Int) := by omega
          have ja : (a : Int) < (zs.length : Int) := by omega
          have ib : (0 : Int) ≤ (b : Int) := by omega
          have jb : (b : Int) < (zs.length : Int) := by omega
          have HT : Hid (∀ x y : Int, zs.getD a 0 = x → zs.getD b 0 = y → (twiceP zs a b ↔ x = y ∧ x ≠ 0)) := fun x y hx hy => by unfold twiceP; rw [hx, hy]
          generalize hx : zs.getD a 0 = x at *
          generalize hy : zs.getD b 0 = y at *
          have HTT := hid (HT.out x y rfl rfl)
          clear HT hca hcb
          by_cases e1 : x = y
          · have b1 : (x == y) = true := by simp [e1]
            by_cases e2 : x = 0
            · have b2 : (x != 0) = false := by simp [e2]
              go_wp2_with go_in
              go_quiet (fail)
              go_wp2
              refine ⟨⟨b + 1, by go_num, by omega, fun k hk => ?_, below_dn HB2.out _⟩, by simp [intOf]; omega⟩
              by_cases hkb : k = b
              · subst hkb; rw [HTT.out]; exact fun h => h.2 e2
              · exact HN2.out k (by omega)
            · have b2 : (x != 0) = true := by simpa using e2
              go_wp2_with go_in
              go_quiet (fail)
              go_wp2
              go_ret
              refine ⟨retB ?_, below_dn HB2.out _⟩
              symm
              rw [decide_eq_true_eq]
              exact ⟨a, b, hlt, hlb, HTT.out.2 ⟨e1, e2⟩⟩
          · have b1 : (x == y) = false := by simp [e1]
            go_wp2_with go_in
            go_quiet (fail)
            go_wp2
            refine ⟨⟨b + 1, by go_num, by omega, fun k hk => ?_, below_dn HB2.out _⟩, by simp [intOf]; omega⟩
            by_cases hkb : k = b
            · subst hkb; rw [HTT.out]; exact fun h => e1 h.1
            · exact HN2.out k (by omega)
        · go_wp2_with go_in
          refine ⟨⟨a + 1, by go_num, by omega, fun i k hi hk => ?_, HB2.out⟩, by simp [intOf]; omega⟩
          by_cases hia : i = a
          · subst hia; exact HN2.out k (by omega)
          · exact HN.out i k (by omega) hk
    · go_wp2_with go_in
      go_ret
      refine ⟨retB ?_, HB.out⟩
      symm
      rw [decide_eq_false_iff_not]
      rintro ⟨i, k, h1, h2, h3⟩
      exact HN.out i k (by omega) h2 h3
end Go.Proofs.YtebinaopncclgabGreatDoor
