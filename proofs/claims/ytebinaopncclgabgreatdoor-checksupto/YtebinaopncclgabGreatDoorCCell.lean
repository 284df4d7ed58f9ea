/- Walks: one cell; the sites of the rows. -/
import Derived.Test.YtebinaopncclgabGreatDoorCArc
namespace Go.Proofs.YtebinaopncclgabGreatDoor
open Go.RowKit Go.IntWalk

/- another arc out of the stop a, or into the stop b, is forced -/
def feAt (T : Nat → Nat → Int) (a b c : Nat) : Prop := (a ≠ 0 ∧ c ≠ b ∧ T a c = 1) ∨ (b ≠ 0 ∧ c ≠ a ∧ T c b = 1)
instance (T : Nat → Nat → Int) (a b c : Nat) : Decidable (feAt T a b c) := by unfold feAt; infer_instance
def feS (n : Nat) (T : Nat → Nat → Int) (a b : Nat) : Bool := (List.range (n + 1)).any fun c => decide (feAt T a b c)

set_option maxRecDepth 100000 in
set_option maxHeartbeats 4000000 in
theorem forced_any (p o : Nat) (r : Rd) (T : Nat → Nat → Int) (ao : Option Addr) (cf n a b : Nat) (w : World) (hn : n ≤ 7) (ha : a < n + 1) (hb : b < n + 1) (h : ArcsAt w p o r T (.slice ao (n + 1 : Nat) cf)) :
    Calls Tryz.prog 209 #[.pointer (some ⟨p, o, none⟩), .int .i64 a, .int .i64 b] w fun e w' => e = .returned (.bool (feS n T a b)) ∧ Below w.heap.size w w' := by
  have HA := hid h
  have h1 := h.c1
  have hl := h.lt
  clear h
  have ia : (0 : Int) ≤ (a : Int) := by omega
  have ja : (a : Int) < 8 := by omega
  have ib : (0 : Int) ≤ (b : Int) := by omega
  have jb : (b : Int) < 8 := by omega
  go_enter Tryz.func209, Tryz.ntmps209
  go_wp2_with fail
  go_loop [7] (fun i => ∃ k : Nat, k ≤ n + 1 ∧ i = .int .i64 k ∧ Hid (∀ c, c < k → ¬ feAt T a b c)) (fun i => n + 1 - (intOf i).toNat)
  case atStart => exact ⟨0, Nat.zero_le _, rfl, fun c hc => absurd hc (by omega)⟩
  case round =>
    obtain ⟨k, hk, rfl, HK⟩ := hrel
    by_cases hlt : k < n + 1
    · have t0 := HA.out.said a k (by omega) (by omega)
      have t1 := HA.out.said k b (by omega) (by omega)
      have ik : (0 : Int) ≤ (k : Int) := by omega
      have jk : (k : Int) < 8 := by omega
      have HY : Hid (feAt T a b k → feS n T a b = true) := fun h => List.any_eq_true.2 ⟨k, by simpa using hlt, by simpa using h⟩
      have HN : Hid (¬ feAt T a b k → ∀ c, c < k + 1 → ¬ feAt T a b c) := fun h c hc => by
        by_cases he : c = k
        · rw [he]; exact h
        · exact HK.out c (by omega)
      clear HK
      by_cases ha0 : a = 0
      · have a0 : ((a : Int) != 0) = false := by simp [ha0]
        by_cases hb0 : b = 0
        · have b0 : ((b : Int) != 0) = false := by simp [hb0]
          have HX := hid (HN.out (fun h => by rcases h with h | h; exact h.1 ha0; exact h.1 hb0))
          clear ha0 hb0 HY HN
          go_wp2_with go_in
          go_round
          case rel => exact ⟨k + 1, by omega, by go_num, HX⟩
          case measure => simp [intOf]; omega
        · have b0 : ((b : Int) != 0) = true := by simp; omega
          by_cases hb1 : k = a
          · have b1 : ((k : Int) != (a : Int)) = false := by simp [hb1]
            have HX := hid (HN.out (fun h => by rcases h with h | h; exact h.1 ha0; exact h.2.1 hb1))
            clear ha0 hb0 hb1 HY HN
            go_wp2_with go_in
            go_round
            case rel => exact ⟨k + 1, by omega, by go_num, HX⟩
            case measure => simp [intOf]; omega
          · have b1 : ((k : Int) != (a : Int)) = true := by simp; omega
            by_cases hb2 : T k b = 1
            · have b2 : (T k b == 1) = true := by simp [hb2]
              have HX := hid (HY.out (.inr ⟨hb0, hb1, hb2⟩))
              clear ha0 hb0 hb1 hb2 HY HN
              go_wp2_with go_in
              all_goals
                go_ret
                exact ⟨ret_bool HX.out.symm, Below.refl _ _⟩
            · have b2 : (T k b == 1) = false := by simpa using hb2
              have HX := hid (HN.out (fun h => by rcases h with h | h; exact h.1 ha0; exact hb2 h.2.2))
              clear ha0 hb0 hb1 hb2 HY HN
              go_wp2_with go_in
              go_round
              case rel => exact ⟨k + 1, by omega, by go_num, HX⟩
              case measure => simp [intOf]; omega
      · have a0 : ((a : Int) != 0) = true := by simp; omega
        by_cases ha1 : k = b
        · have a1 : ((k : Int) != (b : Int)) = false := by simp [ha1]
          by_cases hb0 : b = 0
          · have b0 : ((b : Int) != 0) = false := by simp [hb0]
            have HX := hid (HN.out (fun h => by rcases h with h | h; exact h.2.1 ha1; exact h.1 hb0))
            clear ha0 ha1 hb0 HY HN
            go_wp2_with go_in
            go_round
            case rel => exact ⟨k + 1, by omega, by go_num, HX⟩
            case measure => simp [intOf]; omega
          · have b0 : ((b : Int) != 0) = true := by simp; omega
            by_cases hb1 : k = a
            · have b1 : ((k : Int) != (a : Int)) = false := by simp [hb1]
              have HX := hid (HN.out (fun h => by rcases h with h | h; exact h.2.1 ha1; exact h.2.1 hb1))
              clear ha0 ha1 hb0 hb1 HY HN
              go_wp2_with go_in
              go_round
              case rel => exact ⟨k + 1, by omega, by go_num, HX⟩
              case measure => simp [intOf]; omega
            · have b1 : ((k : Int) != (a : Int)) = true := by simp; omega
              by_cases hb2 : T k b = 1
              · have b2 : (T k b == 1) = true := by simp [hb2]
                have HX := hid (HY.out (.inr ⟨hb0, hb1, hb2⟩))
                clear ha0 ha1 hb0 hb1 hb2 HY HN
                go_wp2_with go_in
                all_goals
                  go_ret
                  exact ⟨ret_bool HX.out.symm, Below.refl _ _⟩
              · have b2 : (T k b == 1) = false := by simpa using hb2
                have HX := hid (HN.out (fun h => by rcases h with h | h; exact h.2.1 ha1; exact hb2 h.2.2))
                clear ha0 ha1 hb0 hb1 hb2 HY HN
                go_wp2_with go_in
                go_round
                case rel => exact ⟨k + 1, by omega, by go_num, HX⟩
                case measure => simp [intOf]; omega
        · have a1 : ((k : Int) != (b : Int)) = true := by simp; omega
          by_cases ha2 : T a k = 1
          · have a2 : (T a k == 1) = true := by simp [ha2]
            have HX := hid (HY.out (.inl ⟨ha0, ha1, ha2⟩))
            clear ha0 ha1 ha2 HY HN
            go_wp2_with go_in
            all_goals
              go_ret
              exact ⟨ret_bool HX.out.symm, Below.refl _ _⟩
          · have a2 : (T a k == 1) = false := by simpa using ha2
            by_cases hb0 : b = 0
            · have b0 : ((b : Int) != 0) = false := by simp [hb0]
              have HX := hid (HN.out (fun h => by rcases h with h | h; exact ha2 h.2.2; exact h.1 hb0))
              clear ha0 ha1 ha2 hb0 HY HN
              go_wp2_with go_in
              go_round
              case rel => exact ⟨k + 1, by omega, by go_num, HX⟩
              case measure => simp [intOf]; omega
            · have b0 : ((b : Int) != 0) = true := by simp; omega
              by_cases hb1 : k = a
              · have b1 : ((k : Int) != (a : Int)) = false := by simp [hb1]
                have HX := hid (HN.out (fun h => by rcases h with h | h; exact ha2 h.2.2; exact h.2.1 hb1))
                clear ha0 ha1 ha2 hb0 hb1 HY HN
                go_wp2_with go_in
                go_round
                case rel => exact ⟨k + 1, by omega, by go_num, HX⟩
                case measure => simp [intOf]; omega
              · have b1 : ((k : Int) != (a : Int)) = true := by simp; omega
                by_cases hb2 : T k b = 1
                · have b2 : (T k b == 1) = true := by simp [hb2]
                  have HX := hid (HY.out (.inr ⟨hb0, hb1, hb2⟩))
                  clear ha0 ha1 ha2 hb0 hb1 hb2 HY HN
                  go_wp2_with go_in
                  all_goals
                    go_ret
                    exact ⟨ret_bool HX.out.symm, Below.refl _ _⟩
                · have b2 : (T k b == 1) = false := by simpa using hb2
                  have HX := hid (HN.out (fun h => by rcases h with h | h; exact ha2 h.2.2; exact hb2 h.2.2))
                  clear ha0 ha1 ha2 hb0 hb1 hb2 HY HN
                  go_wp2_with go_in
                  go_round
                  case rel => exact ⟨k + 1, by omega, by go_num, HX⟩
                  case measure => simp [intOf]; omega
    · have HX : Hid (feS n T a b = false) := by
        show _ = _
        unfold feS
        rw [List.any_eq_false]
        intro c hc
        have := HK.out c (by have : c < n + 1 := by simpa using hc
                             omega)
        simpa using this
      go_wp2_with go_in
      go_ret
      exact ⟨ret_bool HX.out.symm, Below.refl _ _⟩
end Go.Proofs.YtebinaopncclgabGreatDoor
namespace Go.Proofs.YtebinaopncclgabGreatDoor
open Go.RowKit Go.IntWalk

def cellS (n : Nat) (T D : Nat → Nat → Int) (a b : Nat) : Int := if a = 0 ∧ b = 0 then 0 else if a = b ∨ T a b = 2 ∨ feS n T a b = true then -1 else D a b

set_option maxRecDepth 100000 in
set_option maxHeartbeats 4000000 in
theorem acell_any (p o : Nat) (r : Rd) (T D : Nat → Nat → Int) (vf : Value) (n a b : Nat) (w : World) (hn : n ≤ 7) (ha : a < n + 1) (hb : b < n + 1) (h : ArcsAt w p o r T vf) (hq : SqR w vf (n + 1) D) :
    Calls Tryz.prog 184 #[.pointer (some ⟨p, o, none⟩), .int .i64 a, .int .i64 b] w fun e w' => e = .returned (.int .i64 (cellS n T D a b)) ∧ Below w.heap.size w w' := by
  obtain ⟨af, cf, rfl, hn100, hsq⟩ := hq
  obtain ⟨fg, fgi, fci, rfl, hfg, hfc, hfgi, hfr⟩ := hsq a ha
  have hd := hfr b hb
  have HC := hid (forced_any p o r T _ cf n a b w hn ha hb h)
  have h1 := h.c1
  have hl := h.lt
  have t0 := h.said a b (by omega) (by omega)
  have ia : (0 : Int) ≤ (a : Int) := by omega
  have ja : (a : Int) < 8 := by omega
  have ib : (0 : Int) ≤ (b : Int) := by omega
  have jb : (b : Int) < 8 := by omega
  have ja2 : (a : Int) < (n : Int) + 1 := by omega
  have jb2 : (b : Int) < (n : Int) + 1 := by omega
  obtain ⟨d, hdd⟩ : ∃ d, d = D a b := ⟨_, rfl⟩
  rw [← hdd] at hd
  have HX : Hid (cellS n T D a b = if a = 0 ∧ b = 0 then 0 else if a = b ∨ T a b = 2 ∨ feS n T a b = true then -1 else d) := by show _ = _; unfold cellS; rw [← hdd]
  generalize cellS n T D a b = ans at *
  generalize T a b = tv at *
  generalize feS n T a b = fv at *
  clear hsq hfr h hdd
  by_cases h00 : a = 0 ∧ b = 0
  · have HY : Hid (ans = 0) := by show _ = _; rw [HX.out, if_pos h00]
    have c1 : ((a : Int) == 0) = true := by simp [h00.1]
    have c2 : ((b : Int) == 0) = true := by simp [h00.2]
    clear h00 HX
    go_enter Tryz.func184, Tryz.ntmps184
    go_wp2_with go_in
    all_goals
      go_ret
      exact ⟨ret_int HY.out.symm, Below.refl _ _⟩
  · have HX2 : Hid (ans = if a = b ∨ tv = 2 ∨ fv = true then -1 else d) := by show _ = _; rw [HX.out, if_neg h00]
    have c1 : (((a : Int) == 0) && ((b : Int) == 0)) = false := by
      simp
      omega
    have key : ((a : Int) == 0) = false ∨ (((a : Int) == 0) = true ∧ ((b : Int) == 0) = false) := by
      by_cases h : a = 0
      · exact .inr ⟨by simp [h], by simp; omega⟩
      · exact .inl (by simp; omega)
    clear c1 h00 HX
    by_cases hab : a = b
    · have HY : Hid (ans = -1) := by show _ = _; rw [HX2.out, if_pos (.inl hab)]
      have c3 : ((a : Int) == (b : Int)) = true := by simp [hab]
      clear hab HX2
      rcases key with k1 | ⟨k1, k2⟩
      all_goals
        go_enter Tryz.func184, Tryz.ntmps184
        go_wp2_with go_in
        all_goals
          go_ret
          exact ⟨ret_int HY.out.symm, Below.refl _ _⟩
    · have c3 : ((a : Int) == (b : Int)) = false := by simp; omega
      by_cases htv : tv = 2
      · have HY : Hid (ans = -1) := by show _ = _; rw [HX2.out, if_pos (.inr (.inl htv))]
        have c4 : (tv == 2) = true := by simp [htv]
        clear hab HX2 htv
        rcases key with k1 | ⟨k1, k2⟩
        all_goals
          go_enter Tryz.func184, Tryz.ntmps184
          go_wp2_with go_in
          all_goals
            go_ret
            exact ⟨ret_int HY.out.symm, by first | exact Below.refl _ _ | exact (Below.refl _ _).drew⟩
      · have c4 : (tv == 2) = false := by simpa using htv
        cases fv
        · have HY : Hid (ans = d) := by show _ = _; rw [HX2.out, if_neg (by rintro (h | h | h); exact hab h; exact htv h; cases h)]
          clear hab HX2 htv
          rcases key with k1 | ⟨k1, k2⟩
          all_goals
            go_enter Tryz.func184, Tryz.ntmps184
            go_wp2_with (first
              | (go_at_call 209; refine HC.out.mono ?_; rintro e1 w1 ⟨rfl, hb1⟩; have HB1 := hid hb1; have y1 : w1.cell? _ = _ := (hb1.cell (by exact hl)).trans h1; have yd : w1.cell? _ = _ := (hb1.cell (by exact hfgi)).trans hd; have yf : w1.cell? _ = _ := (hb1.cell (by exact hfg)).trans hfc; have hl1 : p < w1.heap.size := Nat.lt_of_lt_of_le hl hb1.size; have hg1 : fg < w1.heap.size := Nat.lt_of_lt_of_le hfg hb1.size; have hg2 : fgi < w1.heap.size := Nat.lt_of_lt_of_le hfgi hb1.size; clear hb1)
              | go_in)
            all_goals
              go_ret
              exact ⟨ret_int HY.out.symm, by first | exact HB1.out | exact HB1.out.drew⟩
        · have HY : Hid (ans = -1) := by show _ = _; rw [HX2.out, if_pos (.inr (.inr rfl))]
          clear hab HX2 htv
          rcases key with k1 | ⟨k1, k2⟩
          all_goals
            go_enter Tryz.func184, Tryz.ntmps184
            go_wp2_with (first
              | (go_at_call 209; refine HC.out.mono ?_; rintro e1 w1 ⟨rfl, hb1⟩; have HB1 := hid hb1; clear hb1)
              | go_in)
            all_goals
              go_ret
              exact ⟨ret_int HY.out.symm, by first | exact HB1.out | exact HB1.out.drew⟩
end Go.Proofs.YtebinaopncclgabGreatDoor
