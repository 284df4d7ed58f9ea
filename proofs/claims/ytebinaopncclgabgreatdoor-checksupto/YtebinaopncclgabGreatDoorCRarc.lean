/- Walks of the document's answer: the arcs of a text. -/
import Derived.Test.YtebinaopncclgabGreatDoorCPlain
import Derived.Test.YtebinaopncclgabGreatDoorOnZ
namespace Go.Proofs.YtebinaopncclgabGreatDoor
open Go.RowKit Go.IntWalk

/- a list of arcs, read -/
def ArcL (w : World) (v : Value) (L : List (List Int)) : Prop :=
  ∃ ao c, v = .slice ao L.length c ∧ ∀ i (h : i < L.length), ∃ g x y, ao = some ⟨g, 0, none⟩ ∧ g < w.heap.size ∧ L[i] = [x, y] ∧ w.cell? ⟨g, i * 2, none⟩ = some (.int .i64 x) ∧ w.cell? ⟨g, i * 2 + 1, none⟩ = some (.int .i64 y)
theorem ArcL.below {w w' : World} {v : Value} {L : List (List Int)} (h : ArcL w v L) (hb : Below w.heap.size w w') : ArcL w' v L := by
  obtain ⟨ao, c, e, h⟩ := h
  refine ⟨ao, c, e, fun i hi => ?_⟩
  obtain ⟨g, x, y, h1, h2, h3, h4, h5⟩ := h i hi
  exact ⟨g, x, y, h1, Nat.lt_of_lt_of_le h2 hb.size, h3, (hb.cell (by exact h2)).trans h4, (hb.cell (by exact h2)).trans h5⟩
theorem ArcL.own {w : World} {B : Nat} {v : Value} {L : List (List Int)} (h : w.ownsRow B 191 2 v L.length (ints L.flatten)) (hs : ∀ s ∈ L, s.length = 2) : ArcL w v L := by
  obtain ⟨ao, c, hv, h1, h2⟩ := own_val h
  refine ⟨ao, c, hv, fun i hi => ?_⟩
  cases ao with
  | none => exact absurd (h2 rfl) (by omega)
  | some a =>
    subst hv
    obtain ⟨g, rfl, _, hg⟩ := h1 a rfl
    have hl := hs _ (List.getElem_mem hi)
    obtain ⟨x, y, e⟩ : ∃ x y, L[i] = [x, y] := by
      match L[i], hl with
      | [x, y], _ => exact ⟨x, y, rfl⟩
    have hc : ∀ j z, j < 2 → L[i][j]? = some z → w.cell? ⟨g, i * 2 + j, none⟩ = some (.int .i64 z) := fun j z hj hz => by
      rw [h.cellAt (i * 2 + j) (by omega)]
      exact flat_ints hs hi hj hz
    exact ⟨g, x, y, rfl, hg, e, hc 0 x (by omega) (by rw [e]; rfl), hc 1 y (by omega) (by rw [e]; rfl)⟩
theorem ArcsOk.two {n : Nat} {L : List (List Int)} (h : ArcsOk n L) : ∀ s ∈ L, s.length = 2 := fun s hs => by
  obtain ⟨a, b, rfl, _⟩ := h s hs; rfl

set_option maxRecDepth 100000 in
set_option maxHeartbeats 2000000 in
theorem held_any (L : List (List Int)) (v : Value) (a b : Int) (w : World) (hl : ArcL w v L) (hn : L.length ≤ 4000000) :
    Calls Tryz.prog 123 #[v, .int .i64 a, .int .i64 b] w fun e w' => e = .returned (.bool (decide ([a, b] ∈ L))) ∧ Below w.heap.size w w' := by
  obtain ⟨ao, c, rfl, hl⟩ := hl
  have HL := hid hl
  clear hl
  go_enter Tryz.func123, Tryz.ntmps123
  go_wp2_with fail
  go_loop [7] (fun i => ∃ k : Nat, k ≤ L.length ∧ i = .int .i64 k ∧ Hid (∀ j (h : j < L.length), j < k → L[j] ≠ [a, b])) (fun i => L.length - (intOf i).toNat)
  case atStart => exact ⟨0, Nat.zero_le _, rfl, fun j _ hj => absurd hj (by omega)⟩
  case round =>
    obtain ⟨k, hk, rfl, HK⟩ := hrel
    by_cases hlt : k < L.length
    · obtain ⟨g, x, y, rfl, hg, hxy, x0, y0⟩ := HL.out k hlt
      have ik : (0 : Int) ≤ (k : Int) := by omega
      have jk : (k : Int) < (L.length : Int) := by omega
      by_cases hx : x = a
      · have c1 : (x == a) = true := by simp [hx]
        by_cases hy : y = b
        · have c2 : (y == b) = true := by simp [hy]
          have HX : Hid (decide ([a, b] ∈ L) = true) := by show _ = _; rw [decide_eq_true_iff, ← hx, ← hy, ← hxy]; exact List.getElem_mem _
          clear hx hy hxy
          go_wp2_with go_in
          all_goals
            go_ret
            exact ⟨ret_bool HX.out.symm, Below.refl _ _⟩
        · have c2 : (y == b) = false := by simpa using hy
          have HN : Hid (∀ j (h : j < L.length), j < k + 1 → L[j] ≠ [a, b]) := fun j h hj => by
            by_cases e : j = k
            · subst e; rw [hxy]; intro e2; simp at e2; exact hy e2.2
            · exact HK.out j h (by omega)
          clear hx hy hxy
          go_wp2_with go_in
          go_round
          case rel => exact ⟨k + 1, by omega, by go_num, HN⟩
          case measure => simp [intOf]; omega
      · have c1 : (x == a) = false := by simpa using hx
        have HN : Hid (∀ j (h : j < L.length), j < k + 1 → L[j] ≠ [a, b]) := fun j h hj => by
          by_cases e : j = k
          · subst e; rw [hxy]; intro e2; simp at e2; exact hx e2.1
          · exact HK.out j h (by omega)
        clear hx hxy
        go_wp2_with go_in
        go_round
        case rel => exact ⟨k + 1, by omega, by go_num, HN⟩
        case measure => simp [intOf]; omega
    · have HX : Hid (decide ([a, b] ∈ L) = false) := by
        show _ = _
        rw [decide_eq_false_iff_not]
        intro hm
        obtain ⟨j, hj, e⟩ := List.mem_iff_getElem.1 hm
        exact HK.out j hj (by omega) e
      go_wp2_with go_in
      go_ret
      exact ⟨ret_bool HX.out.symm, Below.refl _ _⟩

set_option maxRecDepth 100000 in
set_option maxHeartbeats 4000000 in
theorem rival_any (L : List (List Int)) (v : Value) (a b : Nat) (w : World) (hl : ArcL w v L) (hn : L.length ≤ 4000000) (ha : a ≤ 7) (hb : b ≤ 7) :
    Calls Tryz.prog 210 #[v, .int .i64 a, .int .i64 b] w fun e w' => e = .returned (.bool (rivalB L a b)) ∧ Below w.heap.size w w' := by
  obtain ⟨ao, c, rfl, hl⟩ := hl
  have HL := hid hl
  clear hl
  obtain ⟨P, hP⟩ : ∃ P : Int → Int → Prop, P = fun x y => (a ≠ 0 ∧ x = (a : Int) ∧ y ≠ (b : Int)) ∨ (b ≠ 0 ∧ y = (b : Int) ∧ x ≠ (a : Int)) := ⟨_, rfl⟩
  have HT : Hid (∀ k (h : k < L.length) x y, L[k] = [x, y] → P x y → rivalB L a b = true) := fun k h x y e hp => by
    unfold rivalB
    rw [List.any_eq_true]
    refine ⟨L[k], List.getElem_mem _, ?_⟩
    rw [decide_eq_true_iff, e]
    rw [hP] at hp
    exact hp
  have HF : Hid ((∀ k (h : k < L.length), ∃ x y, L[k] = [x, y] ∧ ¬ P x y) → rivalB L a b = false) := fun h => by
    unfold rivalB
    rw [List.any_eq_false]
    intro q hq
    obtain ⟨k, hk, e⟩ := List.mem_iff_getElem.1 hq
    obtain ⟨x, y, e2, hp⟩ := h k hk
    rw [← e, e2, decide_eq_true_iff]
    rw [hP] at hp
    exact hp
  generalize rivalB L a b = ans at *
  have HP := hid hP
  clear hP
  go_enter Tryz.func210, Tryz.ntmps210
  go_wp2_with fail
  go_loopw [7] (fun i wr => ∃ k : Nat, k ≤ L.length ∧ i = .int .i64 k ∧ Hid (∀ j (h : j < L.length), j < k → ∃ x y, L[j] = [x, y] ∧ ¬ P x y) ∧ Hid (Below w.heap.size w wr)) (fun i _ => L.length - (intOf i).toNat)
  case atStart => exact ⟨0, Nat.zero_le _, rfl, fun j _ hj => absurd hj (by omega), Below.refl _ _⟩
  case round =>
    obtain ⟨k, hk, rfl, HK, HB⟩ := hrel
    by_cases hlt : k < L.length
    · obtain ⟨g, x, y, rfl, hg, hxy, x0, y0⟩ := HL.out k hlt
      have x1 : wr.cell? ⟨g, k * 2, none⟩ = _ := (HB.out.cell (by exact hg)).trans x0
      have y1 : wr.cell? ⟨g, k * 2 + 1, none⟩ = _ := (HB.out.cell (by exact hg)).trans y0
      have hgr : g < wr.heap.size := Nat.lt_of_lt_of_le hg HB.out.size
      have ik : (0 : Int) ≤ (k : Int) := by omega
      have jk : (k : Int) < (L.length : Int) := by omega
      have HPI : Hid (P x y ↔ ((a ≠ 0 ∧ x = (a : Int) ∧ y ≠ (b : Int)) ∨ (b ≠ 0 ∧ y = (b : Int) ∧ x ≠ (a : Int)))) := by show _ ↔ _; rw [HP.out]
      have HY : Hid (((a ≠ 0 ∧ x = (a : Int) ∧ y ≠ (b : Int)) ∨ (b ≠ 0 ∧ y = (b : Int) ∧ x ≠ (a : Int))) → ans = true) := fun hp => HT.out k hlt x y hxy (HPI.out.2 hp)
      have HN : Hid (¬ ((a ≠ 0 ∧ x = (a : Int) ∧ y ≠ (b : Int)) ∨ (b ≠ 0 ∧ y = (b : Int) ∧ x ≠ (a : Int))) → ∀ j (h : j < L.length), j < k + 1 → ∃ x y, L[j] = [x, y] ∧ ¬ P x y) := fun hp j h hj => by
        by_cases e : j = k
        · subst e; exact ⟨x, y, hxy, fun q => hp (HPI.out.1 q)⟩
        · exact HK.out j h (by omega)
      clear HPI
      have hbz := HB.out.size
      clear hxy x0 y0 HK
      by_cases ha0 : a = 0
      · have a1 : ¬ (0 : Int) < (a : Int) := by omega
        by_cases hb0 : b = 0
        · have b1 : ¬ (0 : Int) < (b : Int) := by omega
          by_cases hxa : x = a
          · have c1 : (x == (a : Int)) = true := by simp [hxa]
            have c2 : (x != (a : Int)) = false := by simp [hxa]
            by_cases hyb : y = b
            · have d1 : (y == (b : Int)) = true := by simp [hyb]
              have d2 : (y != (b : Int)) = false := by simp [hyb]
              have HX := hid (HN.out (fun h => by rcases h with h | h; exact h.1 ha0; exact h.1 hb0))
              clear HY HN
              clear hxa hyb ha0 hb0
              go_wp2_with go_in
              go_roundw
              case rel => exact ⟨k + 1, by omega, by go_num, HX, by first | exact HB.out.alloc hbz _ | exact HB.out⟩
              case measure => simp [intOf]; omega
            · have d1 : (y == (b : Int)) = false := by simpa using hyb
              have d2 : (y != (b : Int)) = true := by simpa using hyb
              have HX := hid (HN.out (fun h => by rcases h with h | h; exact h.1 ha0; exact h.1 hb0))
              clear HY HN
              clear hxa hyb ha0 hb0
              go_wp2_with go_in
              go_roundw
              case rel => exact ⟨k + 1, by omega, by go_num, HX, by first | exact HB.out.alloc hbz _ | exact HB.out⟩
              case measure => simp [intOf]; omega
          · have c1 : (x == (a : Int)) = false := by simpa using hxa
            have c2 : (x != (a : Int)) = true := by simpa using hxa
            by_cases hyb : y = b
            · have d1 : (y == (b : Int)) = true := by simp [hyb]
              have d2 : (y != (b : Int)) = false := by simp [hyb]
              have HX := hid (HN.out (fun h => by rcases h with h | h; exact h.1 ha0; exact h.1 hb0))
              clear HY HN
              clear hxa hyb ha0 hb0
              go_wp2_with go_in
              go_roundw
              case rel => exact ⟨k + 1, by omega, by go_num, HX, by first | exact HB.out.alloc hbz _ | exact HB.out⟩
              case measure => simp [intOf]; omega
            · have d1 : (y == (b : Int)) = false := by simpa using hyb
              have d2 : (y != (b : Int)) = true := by simpa using hyb
              have HX := hid (HN.out (fun h => by rcases h with h | h; exact h.1 ha0; exact h.1 hb0))
              clear HY HN
              clear hxa hyb ha0 hb0
              go_wp2_with go_in
              go_roundw
              case rel => exact ⟨k + 1, by omega, by go_num, HX, by first | exact HB.out.alloc hbz _ | exact HB.out⟩
              case measure => simp [intOf]; omega
        · have b1 : (0 : Int) < (b : Int) := by omega
          by_cases hxa : x = a
          · have c1 : (x == (a : Int)) = true := by simp [hxa]
            have c2 : (x != (a : Int)) = false := by simp [hxa]
            by_cases hyb : y = b
            · have d1 : (y == (b : Int)) = true := by simp [hyb]
              have d2 : (y != (b : Int)) = false := by simp [hyb]
              have HX := hid (HN.out (fun h => by rcases h with h | h; exact h.1 ha0; exact h.2.2 hxa))
              clear HY HN
              clear hxa hyb ha0 hb0
              go_wp2_with go_in
              go_roundw
              case rel => exact ⟨k + 1, by omega, by go_num, HX, by first | exact HB.out.alloc hbz _ | exact HB.out⟩
              case measure => simp [intOf]; omega
            · have d1 : (y == (b : Int)) = false := by simpa using hyb
              have d2 : (y != (b : Int)) = true := by simpa using hyb
              have HX := hid (HN.out (fun h => by rcases h with h | h; exact h.1 ha0; exact hyb h.2.1))
              clear HY HN
              clear hxa hyb ha0 hb0
              go_wp2_with go_in
              go_roundw
              case rel => exact ⟨k + 1, by omega, by go_num, HX, by first | exact HB.out.alloc hbz _ | exact HB.out⟩
              case measure => simp [intOf]; omega
          · have c1 : (x == (a : Int)) = false := by simpa using hxa
            have c2 : (x != (a : Int)) = true := by simpa using hxa
            by_cases hyb : y = b
            · have d1 : (y == (b : Int)) = true := by simp [hyb]
              have d2 : (y != (b : Int)) = false := by simp [hyb]
              have HX := hid (HY.out (.inr ⟨hb0, hyb, hxa⟩))
              clear HY HN
              clear hxa hyb ha0 hb0
              go_wp2_with go_in
              all_goals
                go_ret
                exact ⟨ret_bool HX.out.symm, by first | exact HB.out.alloc hbz _ | exact HB.out⟩
            · have d1 : (y == (b : Int)) = false := by simpa using hyb
              have d2 : (y != (b : Int)) = true := by simpa using hyb
              have HX := hid (HN.out (fun h => by rcases h with h | h; exact h.1 ha0; exact hyb h.2.1))
              clear HY HN
              clear hxa hyb ha0 hb0
              go_wp2_with go_in
              go_roundw
              case rel => exact ⟨k + 1, by omega, by go_num, HX, by first | exact HB.out.alloc hbz _ | exact HB.out⟩
              case measure => simp [intOf]; omega
      · have a1 : (0 : Int) < (a : Int) := by omega
        by_cases hb0 : b = 0
        · have b1 : ¬ (0 : Int) < (b : Int) := by omega
          by_cases hxa : x = a
          · have c1 : (x == (a : Int)) = true := by simp [hxa]
            have c2 : (x != (a : Int)) = false := by simp [hxa]
            by_cases hyb : y = b
            · have d1 : (y == (b : Int)) = true := by simp [hyb]
              have d2 : (y != (b : Int)) = false := by simp [hyb]
              have HX := hid (HN.out (fun h => by rcases h with h | h; exact h.2.2 hyb; exact h.1 hb0))
              clear HY HN
              clear hxa hyb ha0 hb0
              go_wp2_with go_in
              go_roundw
              case rel => exact ⟨k + 1, by omega, by go_num, HX, by first | exact HB.out.alloc hbz _ | exact HB.out⟩
              case measure => simp [intOf]; omega
            · have d1 : (y == (b : Int)) = false := by simpa using hyb
              have d2 : (y != (b : Int)) = true := by simpa using hyb
              have HX := hid (HY.out (.inl ⟨ha0, hxa, hyb⟩))
              clear HY HN
              clear hxa hyb ha0 hb0
              go_wp2_with go_in
              all_goals
                go_ret
                exact ⟨ret_bool HX.out.symm, by first | exact HB.out.alloc hbz _ | exact HB.out⟩
          · have c1 : (x == (a : Int)) = false := by simpa using hxa
            have c2 : (x != (a : Int)) = true := by simpa using hxa
            by_cases hyb : y = b
            · have d1 : (y == (b : Int)) = true := by simp [hyb]
              have d2 : (y != (b : Int)) = false := by simp [hyb]
              have HX := hid (HN.out (fun h => by rcases h with h | h; exact hxa h.2.1; exact h.1 hb0))
              clear HY HN
              clear hxa hyb ha0 hb0
              go_wp2_with go_in
              go_roundw
              case rel => exact ⟨k + 1, by omega, by go_num, HX, by first | exact HB.out.alloc hbz _ | exact HB.out⟩
              case measure => simp [intOf]; omega
            · have d1 : (y == (b : Int)) = false := by simpa using hyb
              have d2 : (y != (b : Int)) = true := by simpa using hyb
              have HX := hid (HN.out (fun h => by rcases h with h | h; exact hxa h.2.1; exact h.1 hb0))
              clear HY HN
              clear hxa hyb ha0 hb0
              go_wp2_with go_in
              go_roundw
              case rel => exact ⟨k + 1, by omega, by go_num, HX, by first | exact HB.out.alloc hbz _ | exact HB.out⟩
              case measure => simp [intOf]; omega
        · have b1 : (0 : Int) < (b : Int) := by omega
          by_cases hxa : x = a
          · have c1 : (x == (a : Int)) = true := by simp [hxa]
            have c2 : (x != (a : Int)) = false := by simp [hxa]
            by_cases hyb : y = b
            · have d1 : (y == (b : Int)) = true := by simp [hyb]
              have d2 : (y != (b : Int)) = false := by simp [hyb]
              have HX := hid (HN.out (fun h => by rcases h with h | h; exact h.2.2 hyb; exact h.2.2 hxa))
              clear HY HN
              clear hxa hyb ha0 hb0
              go_wp2_with go_in
              go_roundw
              case rel => exact ⟨k + 1, by omega, by go_num, HX, by first | exact HB.out.alloc hbz _ | exact HB.out⟩
              case measure => simp [intOf]; omega
            · have d1 : (y == (b : Int)) = false := by simpa using hyb
              have d2 : (y != (b : Int)) = true := by simpa using hyb
              have HX := hid (HY.out (.inl ⟨ha0, hxa, hyb⟩))
              clear HY HN
              clear hxa hyb ha0 hb0
              go_wp2_with go_in
              all_goals
                go_ret
                exact ⟨ret_bool HX.out.symm, by first | exact HB.out.alloc hbz _ | exact HB.out⟩
          · have c1 : (x == (a : Int)) = false := by simpa using hxa
            have c2 : (x != (a : Int)) = true := by simpa using hxa
            by_cases hyb : y = b
            · have d1 : (y == (b : Int)) = true := by simp [hyb]
              have d2 : (y != (b : Int)) = false := by simp [hyb]
              have HX := hid (HY.out (.inr ⟨hb0, hyb, hxa⟩))
              clear HY HN
              clear hxa hyb ha0 hb0
              go_wp2_with go_in
              all_goals
                go_ret
                exact ⟨ret_bool HX.out.symm, by first | exact HB.out.alloc hbz _ | exact HB.out⟩
            · have d1 : (y == (b : Int)) = false := by simpa using hyb
              have d2 : (y != (b : Int)) = true := by simpa using hyb
              have HX := hid (HN.out (fun h => by rcases h with h | h; exact hxa h.2.1; exact hyb h.2.1))
              clear HY HN
              clear hxa hyb ha0 hb0
              go_wp2_with go_in
              go_roundw
              case rel => exact ⟨k + 1, by omega, by go_num, HX, by first | exact HB.out.alloc hbz _ | exact HB.out⟩
              case measure => simp [intOf]; omega
    · have HX := hid (HF.out (fun j h => HK.out j h (by omega)))
      go_wp2_with go_in
      go_ret
      exact ⟨ret_bool HX.out.symm, HB.out⟩
end Go.Proofs.YtebinaopncclgabGreatDoor
namespace Go.Proofs.YtebinaopncclgabGreatDoor
open Go.RowKit Go.IntWalk

theorem Tryz.infoArc : (Tryz.prog.info? 191).map (fun i => (i.zero, i.size, i.bytes)) = some (some (.agg #[.int .i64 0, .int .i64 0]), 2, 16) := by kernel_rfl
theorem ints2 (a b : Int) : ∀ u ∈ [Value.int .i64 a, .int .i64 b], u.oneCell' = true := by intro u hu; simp at hu; rcases hu with rfl | rfl <;> rfl

end Go.Proofs.YtebinaopncclgabGreatDoor
