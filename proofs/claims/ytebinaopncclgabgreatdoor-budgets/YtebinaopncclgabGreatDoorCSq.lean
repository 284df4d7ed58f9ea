/- Walks: the square of cells. -/
import Derived.Test.YtebinaopncclgabGreatDoorCArc
namespace Go.Proofs.YtebinaopncclgabGreatDoor
open Go.RowKit Go.IntWalk

/- another arc out of the stop a, or into the stop b, is forced -/
def feAt (T : Nat → Nat → Int) (a b c : Nat) : Prop := (a ≠ 0 ∧ c ≠ b ∧ T a c = 1) ∨ (b ≠ 0 ∧ c ≠ a ∧ T c b = 1)
instance (T : Nat → Nat → Int) (a b c : Nat) : Decidable (feAt T a b c) := by unfold feAt; infer_instance
def feS (n : Nat) (T : Nat → Nat → Int) (a b : Nat) : Bool := (List.range (n + 1)).any fun c => decide (feAt T a b c)

set_option maxRecDepth 100000 in
set_option maxHeartbeats 4000000 in
theorem forced_any (p o : Nat) (r : Rd) (T : Nat → Nat → Int) (ao : Option Addr) (cf n a b : Nat) (w : World) (hn : n ≤ 7) (ha : a < n + 1) (hb : b < n + 1) (h : ArcsAt w p o r T (.slice ao (n + 1 : Nat) cf)) :
    Calls Tryz.prog 209 #[.pointer (some ⟨p, o, none⟩), .int .i64 a, .int .i64 b] w fun e w' => e = .returned (.bool (feS n T a b)) ∧ Below w.heap.size w w' := by
  have HA := hid h
  have h1 := h.c1
  have hl := h.lt
  clear h
  have ia : (0 : Int) ≤ (a : Int) := by omega
  have ja : (a : Int) < 8 := by omega
  have ib : (0 : Int) ≤ (b : Int) := by omega
  have jb : (b : Int) < 8 := by omega
  go_enter Tryz.func209, Tryz.ntmps209
  go_wp2_with fail
  go_loop [7] (fun i => ∃ k : Nat, k ≤ n + 1 ∧ i = .int .i64 k ∧ Hid (∀ c, c < k → ¬ feAt T a b c)) (fun i => n + 1 - (intOf i).toNat)
  case atStart => exact ⟨0, Nat.zero_le _, rfl, fun c hc => absurd hc (by omega)⟩
  case round =>
    obtain ⟨k, hk, rfl, HK⟩ := hrel
    by_cases hlt : k < n + 1
    · have t0 := HA.out.said a k (by omega) (by omega)
      have t1 := HA.out.said k b (by omega) (by omega)
      have ik : (0 : Int) ≤ (k : Int) := by omega
      have jk : (k : Int) < 8 := by omega
      have HY : Hid (feAt T a b k → feS n T a b = true) := fun h => List.any_eq_true.2 ⟨k, by simpa using hlt, by simpa using h⟩
      have HN : Hid (¬ feAt T a b k → ∀ c, c < k + 1 → ¬ feAt T a b c) := fun h c hc => by
        by_cases he : c = k
        · rw [he]; exact h
        · exact HK.out c (by omega)
      clear HK
      by_cases ha0 : a = 0
      · have a0 : ((a : Int) != 0) = false := by simp [ha0]
        by_cases hb0 : b = 0
        · have b0 : ((b : Int) != 0) = false := by simp [hb0]
          have HX := hid (HN.out (fun h => by rcases h with h | h; exact h.1 ha0; exact h.1 hb0))
          clear ha0 hb0 HY HN
          go_wp2_with go_in
          go_round
          case rel => exact ⟨k + 1, by omega, by go_num, HX⟩
          case measure => simp [intOf]; omega
        · have b0 : ((b : Int) != 0) = true := by simp; omega
          by_cases hb1 : k = a
          · have b1 : ((k : Int) != (a : Int)) = false := by simp [hb1]
            have HX := hid (HN.out (fun h => by rcases h with h | h; exact h.1 ha0; exact h.2.1 hb1))
            clear ha0 hb0 hb1 HY HN
            go_wp2_with go_in
            go_round
            case rel => exact ⟨k + 1, by omega, by go_num, HX⟩
            case measure => simp [intOf]; omega
          · have b1 : ((k : Int) != (a : Int)) = true := by simp; omega
            by_cases hb2 : T k b = 1
            · have b2 : (T k b == 1) = true := by simp [hb2]
              have HX := hid (HY.out (.inr ⟨hb0, hb1, hb2⟩))
              clear ha0 hb0 hb1 hb2 HY HN
              go_wp2_with go_in
              all_goals
                go_ret
                exact ⟨ret_bool HX.out.symm, Below.refl _ _⟩
            · have b2 : (T k b == 1) = false := by simpa using hb2
              have HX := hid (HN.out (fun h => by rcases h with h | h; exact h.1 ha0; exact hb2 h.2.2))
              clear ha0 hb0 hb1 hb2 HY HN
              go_wp2_with go_in
              go_round
              case rel => exact ⟨k + 1, by omega, by go_num, HX⟩
              case measure => simp [intOf]; omega
      · have a0 : ((a : Int) != 0) = true := by simp; omega
        by_cases ha1 : k = b
        · have a1 : ((k : Int) != (b : Int)) = false := by simp [ha1]
          by_cases hb0 : b = 0
          · have b0 : ((b : Int) != 0) = false := by simp [hb0]
            have HX := hid (HN.out (fun h => by rcases h with h | h; exact h.2.1 ha1; exact h.1 hb0))
            clear ha0 ha1 hb0 HY HN
            go_wp2_with go_in
            go_round
            case rel => exact ⟨k + 1, by omega, by go_num, HX⟩
            case measure => simp [intOf]; omega
          · have b0 : ((b : Int) != 0) = true := by simp; omega
            by_cases hb1 : k = a
            · have b1 : ((k : Int) != (a : Int)) = false := by simp [hb1]
              have HX := hid (HN.out (fun h => by rcases h with h | h; exact h.2.1 ha1; exact h.2.1 hb1))
              clear ha0 ha1 hb0 hb1 HY HN
              go_wp2_with go_in
              go_round
              case rel => exact ⟨k + 1, by omega, by go_num, HX⟩
              case measure => simp [intOf]; omega
            · have b1 : ((k : Int) != (a : Int)) = true := by simp; omega
              by_cases hb2 : T k b = 1
              · have b2 : (T k b == 1) = true := by simp [hb2]
                have HX := hid (HY.out (.inr ⟨hb0, hb1, hb2⟩))
                clear ha0 ha1 hb0 hb1 hb2 HY HN
                go_wp2_with go_in
                all_goals
                  go_ret
                  exact ⟨ret_bool HX.out.symm, Below.refl _ _⟩
              · have b2 : (T k b == 1) = false := by simpa using hb2
                have HX := hid (HN.out (fun h => by rcases h with h | h; exact h.2.1 ha1; exact hb2 h.2.2))
                clear ha0 ha1 hb0 hb1 hb2 HY HN
                go_wp2_with go_in
                go_round
                case rel => exact ⟨k + 1, by omega, by go_num, HX⟩
                case measure => simp [intOf]; omega
        · have a1 : ((k : Int) != (b : Int)) = true := by simp; omega
          by_cases ha2 : T a k = 1
          · have a2 : (T a k == 1) = true := by simp [ha2]
            have HX := hid (HY.out (.inl ⟨ha0, ha1, ha2⟩))
            clear ha0 ha1 ha2 HY HN
            go_wp2_with go_in
            all_goals
              go_ret
              exact ⟨ret_bool HX.out.symm, Below.refl _ _⟩
          · have a2 : (T a k == 1) = false := by simpa using ha2
            by_cases hb0 : b = 0
            · have b0 : ((b : Int) != 0) = false := by simp [hb0]
              have HX := hid (HN.out (fun h => by rcases h with h | h; exact ha2 h.2.2; exact h.1 hb0))
              clear ha0 ha1 ha2 hb0 HY HN
              go_wp2_with go_in
              go_round
              case rel => exact ⟨k + 1, by omega, by go_num, HX⟩
              case measure => simp [intOf]; omega
            · have b0 : ((b : Int) != 0) = true := by simp; omega
              by_cases hb1 : k = a
              · have b1 : ((k : Int) != (a : Int)) = false := by simp [hb1]
                have HX := hid (HN.out (fun h => by rcases h with h | h; exact ha2 h.2.2; exact h.2.1 hb1))
                clear ha0 ha1 ha2 hb0 hb1 HY HN
                go_wp2_with go_in
                go_round
                case rel => exact ⟨k + 1, by omega, by go_num, HX⟩
                case measure => simp [intOf]; omega
              · have b1 : ((k : Int) != (a : Int)) = true := by simp; omega
                by_cases hb2 : T k b = 1
                · have b2 : (T k b == 1) = true := by simp [hb2]
                  have HX := hid (HY.out (.inr ⟨hb0, hb1, hb2⟩))
                  clear ha0 ha1 ha2 hb0 hb1 hb2 HY HN
                  go_wp2_with go_in
                  all_goals
                    go_ret
                    exact ⟨ret_bool HX.out.symm, Below.refl _ _⟩
                · have b2 : (T k b == 1) = false := by simpa using hb2
                  have HX := hid (HN.out (fun h => by rcases h with h | h; exact ha2 h.2.2; exact hb2 h.2.2))
                  clear ha0 ha1 ha2 hb0 hb1 hb2 HY HN
                  go_wp2_with go_in
                  go_round
                  case rel => exact ⟨k + 1, by omega, by go_num, HX⟩
                  case measure => simp [intOf]; omega
    · have HX : Hid (feS n T a b = false) := by
        show _ = _
        unfold feS
        rw [List.any_eq_false]
        intro c hc
        have := HK.out c (by have : c < n + 1 := by simpa using hc
                             omega)
        simpa using this
      go_wp2_with go_in
      go_ret
      exact ⟨ret_bool HX.out.symm, Below.refl _ _⟩
end Go.Proofs.YtebinaopncclgabGreatDoor
namespace Go.Proofs.YtebinaopncclgabGreatDoor
open Go.RowKit Go.IntWalk

def cellS (n : Nat) (T D : Nat → Nat → Int) (a b : Nat) : Int := if a = 0 ∧ b = 0 then 0 else if a = b ∨ T a b = 2 ∨ feS n T a b = true then -1 else D a b

set_option maxRecDepth 100000 in
set_option maxHeartbeats 4000000 in
theorem acell_any (p o : Nat) (r : Rd) (T D : Nat → Nat → Int) (vf : Value) (n a b : Nat) (w : World) (hn : n ≤ 7) (ha : a < n + 1) (hb : b < n + 1) (h : ArcsAt w p o r T vf) (hq : SqR w vf (n + 1) D) :
    Calls Tryz.prog 184 #[.pointer (some ⟨p, o, none⟩), .int .i64 a, .int .i64 b] w fun e w' => e = .returned (.int .i64 (cellS n T D a b)) ∧ Below w.heap.size w w' := by
  obtain ⟨af, cf, rfl, hn100, hsq⟩ := hq
  obtain ⟨fg, fgi, fci, rfl, hfg, hfc, hfgi, hfr⟩ := hsq a ha
  have hd := hfr b hb
  have HC := hid (forced_any p o r T _ cf n a b w hn ha hb h)
  have h1 := h.c1
  have hl := h.lt
  have t0 := h.said a b (by omega) (by omega)
  have ia : (0 : Int) ≤ (a : Int) := by omega
  have ja : (a : Int) < 8 := by omega
  have ib : (0 : Int) ≤ (b : Int) := by omega
  have jb : (b : Int) < 8 := by omega
  have ja2 : (a : Int) < (n : Int) + 1 := by omega
  have jb2 : (b : Int) < (n : Int) + 1 := by omega
  obtain ⟨d, hdd⟩ : ∃ d, d = D a b := ⟨_, rfl⟩
  rw [← hdd] at hd
  have HX : Hid (cellS n T D a b = if a = 0 ∧ b = 0 then 0 else if a = b ∨ T a b = 2 ∨ feS n T a b = true then -1 else d) := by show _ = _; unfold cellS; rw [← hdd]
  generalize cellS n T D a b = ans at *
  generalize T a b = tv at *
  generalize feS n T a b = fv at *
  clear hsq hfr h hdd
  by_cases h00 : a = 0 ∧ b = 0
  · have HY : Hid (ans = 0) := by show _ = _; rw [HX.out, if_pos h00]
    have c1 : ((a : Int) == 0) = true := by simp [h00.1]
    have c2 : ((b : Int) == 0) = true := by simp [h00.2]
    clear h00 HX
    go_enter Tryz.func184, Tryz.ntmps184
    go_wp2_with go_in
    all_goals
      go_ret
      exact ⟨ret_int HY.out.symm, Below.refl _ _⟩
  · have HX2 : Hid (ans = if a = b ∨ tv = 2 ∨ fv = true then -1 else d) := by show _ = _; rw [HX.out, if_neg h00]
    have c1 : (((a : Int) == 0) && ((b : Int) == 0)) = false := by
      simp
      omega
    have key : ((a : Int) == 0) = false ∨ (((a : Int) == 0) = true ∧ ((b : Int) == 0) = false) := by
      by_cases h : a = 0
      · exact .inr ⟨by simp [h], by simp; omega⟩
      · exact .inl (by simp; omega)
    clear c1 h00 HX
    by_cases hab : a = b
    · have HY : Hid (ans = -1) := by show _ = _; rw [HX2.out, if_pos (.inl hab)]
      have c3 : ((a : Int) == (b : Int)) = true := by simp [hab]
      clear hab HX2
      rcases key with k1 | ⟨k1, k2⟩
      all_goals
        go_enter Tryz.func184, Tryz.ntmps184
        go_wp2_with go_in
        all_goals
          go_ret
          exact ⟨ret_int HY.out.symm, Below.refl _ _⟩
    · have c3 : ((a : Int) == (b : Int)) = false := by simp; omega
      by_cases htv : tv = 2
      · have HY : Hid (ans = -1) := by show _ = _; rw [HX2.out, if_pos (.inr (.inl htv))]
        have c4 : (tv == 2) = true := by simp [htv]
        clear hab HX2 htv
        rcases key with k1 | ⟨k1, k2⟩
        all_goals
          go_enter Tryz.func184, Tryz.ntmps184
          go_wp2_with go_in
          all_goals
            go_ret
            exact ⟨ret_int HY.out.symm, by first | exact Below.refl _ _ | exact (Below.refl _ _).drew⟩
      · have c4 : (tv == 2) = false := by simpa using htv
        cases fv
        · have HY : Hid (ans = d) := by show _ = _; rw [HX2.out, if_neg (by rintro (h | h | h); exact hab h; exact htv h; cases h)]
          clear hab HX2 htv
          rcases key with k1 | ⟨k1, k2⟩
          all_goals
            go_enter Tryz.func184, Tryz.ntmps184
            go_wp2_with (first
              | (go_at_call 209; refine HC.out.mono ?_; rintro e1 w1 ⟨rfl, hb1⟩; have HB1 := hid hb1; have y1 : w1.cell? _ = _ := (hb1.cell (by exact hl)).trans h1; have yd : w1.cell? _ = _ := (hb1.cell (by exact hfgi)).trans hd; have yf : w1.cell? _ = _ := (hb1.cell (by exact hfg)).trans hfc; have hl1 : p < w1.heap.size := Nat.lt_of_lt_of_le hl hb1.size; have hg1 : fg < w1.heap.size := Nat.lt_of_lt_of_le hfg hb1.size; have hg2 : fgi < w1.heap.size := Nat.lt_of_lt_of_le hfgi hb1.size; clear hb1)
              | go_in)
            all_goals
              go_ret
              exact ⟨ret_int HY.out.symm, by first | exact HB1.out | exact HB1.out.drew⟩
        · have HY : Hid (ans = -1) := by show _ = _; rw [HX2.out, if_pos (.inr (.inr rfl))]
          clear hab HX2 htv
          rcases key with k1 | ⟨k1, k2⟩
          all_goals
            go_enter Tryz.func184, Tryz.ntmps184
            go_wp2_with (first
              | (go_at_call 209; refine HC.out.mono ?_; rintro e1 w1 ⟨rfl, hb1⟩; have HB1 := hid hb1; clear hb1)
              | go_in)
            all_goals
              go_ret
              exact ⟨ret_int HY.out.symm, by first | exact HB1.out | exact HB1.out.drew⟩
end Go.Proofs.YtebinaopncclgabGreatDoor
namespace Go.Proofs.YtebinaopncclgabGreatDoor
open Go.RowKit Go.IntWalk

def lineS (n : Nat) : List Int := (List.range n).map fun (i : Nat) => (i : Int) + 1
theorem lineS_succ (n : Nat) : lineS (n + 1) = lineS n ++ [(n : Int) + 1] := by unfold lineS; rw [List.range_succ, List.map_append]; rfl
theorem lineS_len (n : Nat) : (lineS n).length = n := by unfold lineS; simp

set_option maxRecDepth 100000 in
set_option maxHeartbeats 4000000 in
theorem lineSites_any (p o : Nat) (r : Rd) (T : Nat → Nat → Int) (ao : Option Addr) (cf n v : Nat) (w : World) (hn : n ≤ 7) (hv : r.vans = v) (hv3 : v ≤ 3) (h : ArcsAt w p o r T (.slice ao (n + 1 : Nat) cf)) :
    Calls Tryz.prog 140 #[.pointer (some ⟨p, o, none⟩)] w fun e w' => ∃ x, e = .returned x ∧ w'.ownsRow w.heap.size 3 1 x (n + v) (ints (lineS n ++ List.replicate v 0)) ∧ Below w.heap.size w w' := by
  obtain ⟨i0, hi, hz0, hz1, hz2⟩ := info_parts Tryz.infoInt
  have HA := hid h
  have hpl := h.lt
  have c0 := h.c0
  have c1 := h.c1
  rw [hv] at c0
  have HC0 := hid c0
  have HC1 := hid c1
  clear h hv c0 c1
  go_enter Tryz.func140, Tryz.ntmps140
  go_wp2_with fail
  go_loopw [3, 4] (fun lv i wr => ∃ k : Nat, k ≤ n ∧ i = .int .i64 (k + 1 : Nat) ∧ Hid (wr.ownsRow w.heap.size 3 1 lv k (ints (lineS k))) ∧ Hid (Below w.heap.size w wr)) (fun _ i _ => n + 1 - (intOf i).toNat)
  case atStart => exact ⟨0, Nat.zero_le _, rfl, World.ownsRow_nil _ _ _ _, Below.refl _ _⟩
  case round =>
    obtain ⟨k, hk, rfl, HO, HB⟩ := hrel
    obtain ⟨al, cl, rfl, _, _⟩ := own_val HO.out
    have hbs := HB.out.size
    have hpw : p < wr.heap.size := by omega
    have d1 : wr.cell? ⟨p, o + 1, none⟩ = some (.slice ao (n + 1 : Nat) cf) := (HB.out.cell (by exact hpl)).trans HC1.out
    by_cases hlt : k < n
    · have HT := hid (lineS_succ k)
      go_wp2_with (first
        | (at_builtin; refine wpList_append_own _ rfl _ _ 40 rfl w.heap.size 3 i0 (.int .i64 0) 1 8 Tryz.underlying40 hi hz0 hz1 hz2 rfl (by decide) _ _ _ rfl (HO.out.alloc _) ⟨wr.heap.size, 0, none⟩ 1 1 [.int .i64 (k + 1 : Nat)] rfl rfl ?c1 ?c2 ?c3 ?c4 ?c5 ?_)
        | go_in)
      case c1 => exact cell_one_new _ _ _
      case c2 => intro u hu; simp at hu; subst hu; rfl
      case c3 => unfold maxLen; omega
      case c4 => omega
      case c5 => simp; omega
      intro v' w2 hown' hgrow _
      have HO' := hid hown'
      have HG := hid hgrow
      clear hown' hgrow d1
      go_wp2
      go_roundw
      case rel =>
        refine ⟨k + 1, by omega, by go_num, ?_, ?_⟩
        · show World.ownsRow _ _ _ _ _ _ _
          rw [HT.out, ints_append]; exact HO'.out
        · exact (HB.out.alloc (by omega) _).grown HG.out (by simp; omega) (fun q hq => by have := (HO.out.lt q hq).1; omega)
      case measure => simp [intOf]; omega
    · have hke : k = n := by omega
      subst hke
      clear hlt hk
      have hk7 : k ≤ 7 := hn
      generalize hm : k + 1 = m at *
      clear hm
      obtain ⟨w1, hw1⟩ : ∃ w1, w1 = wr := ⟨_, rfl⟩
      rw [← hw1] at HO HB
      go_wp2_with fail
      rw [← hw1]
      go_loopw [3, 5] (fun lv i wr => ∃ q : Nat, q ≤ v ∧ i = .int .i64 q ∧ Hid (wr.ownsRow w.heap.size 3 1 lv (k + q) (ints (lineS k ++ List.replicate q 0))) ∧ Hid (Below w.heap.size w wr)) (fun _ i _ => v - (intOf i).toNat)
      case atStart => exact ⟨0, Nat.zero_le _, rfl, by show World.ownsRow _ _ _ _ _ _ _; rw [List.replicate_zero, List.append_nil]; exact HO.out, HB⟩
      case round =>
        clear HO HB
        obtain ⟨q, hq, rfl, HO, HB⟩ := hrel
        obtain ⟨al, cl, rfl, _, _⟩ := own_val HO.out
        have hbs := HB.out.size
        have hpw : p < wr.heap.size := by omega
        have d0 : wr.cell? ⟨p, o, none⟩ = some (.int .i64 v) := (HB.out.cell (by exact hpl)).trans HC0.out
        by_cases hlt : q < v
        · have HT : Hid (lineS k ++ List.replicate (q + 1) (0 : Int) = (lineS k ++ List.replicate q 0) ++ [0]) := by show _ = _; rw [List.replicate_succ', List.append_assoc]
          go_wp2_with (first
            | (at_builtin; refine wpList_append_own _ rfl _ _ 40 rfl w.heap.size 3 i0 (.int .i64 0) 1 8 Tryz.underlying40 hi hz0 hz1 hz2 rfl (by decide) _ _ _ rfl (HO.out.alloc _) ⟨wr.heap.size, 0, none⟩ 1 1 [.int .i64 0] rfl rfl ?c1 ?c2 ?c3 ?c4 ?c5 ?_)
            | go_in)
          case c1 => exact cell_one_new _ _ _
          case c2 => intro u hu; simp at hu; subst hu; rfl
          case c3 => unfold maxLen; omega
          case c4 => omega
          case c5 => simp; omega
          intro v' w2 hown' hgrow _
          have HO' := hid hown'
          have HG := hid hgrow
          clear hown' hgrow d0
          go_wp2
          go_roundw
          case rel =>
            refine ⟨q + 1, by omega, by go_num, ?_, ?_⟩
            · show World.ownsRow _ _ _ _ _ _ _
              rw [HT.out, ints_append]; exact HO'.out
            · exact (HB.out.alloc (by omega) _).grown HG.out (by simp; omega) (fun q hq => by have := (HO.out.lt q hq).1; omega)
          case measure => simp [intOf]; omega
        · have hke : q = v := by omega
          subst hke
          go_wp2
          go_ret
          exact ⟨_, rfl, HO.out, HB.out⟩
end Go.Proofs.YtebinaopncclgabGreatDoor
namespace Go.Proofs.YtebinaopncclgabGreatDoor
open Go.RowKit Go.IntWalk

def lineN (m i : Nat) : Nat := if i < m then i + 1 else 0
theorem lineN_lt (m i : Nat) : lineN m i < m + 1 := by unfold lineN; split <;> omega
theorem lineN_list (m v : Nat) : lineS m ++ List.replicate v 0 = (List.range (m + v)).map fun i => (lineN m i : Int) := by
  apply List.ext_getElem
  · simp [lineS]
  · intro i h1 h2
    simp only [List.getElem_map, List.getElem_range, lineN]
    by_cases h : i < m
    · rw [List.getElem_append_left (by rw [lineS_len]; exact h), if_pos h]; simp [lineS]
    · rw [List.getElem_append_right (by rw [lineS_len]; omega), if_neg h]; simp

set_option maxRecDepth 100000 in
set_option maxHeartbeats 4000000 in
theorem square_own (p o : Nat) (r : Rd) (T D : Nat → Nat → Int) (vf : Value) (m v n : Nat) (w : World) (hm : m ≤ 7) (hv : r.vans = v) (hv1 : 1 ≤ v) (hv3 : v ≤ 3) (hmn : n = m + v) (h : ArcsAt w p o r T vf) (hq : SqR w vf (m + 1) D) :
    Calls Tryz.prog 121 #[.pointer (some ⟨p, o, none⟩)] w fun e w' => ∃ x, e = .returned x ∧ GridO w' w.heap.size x n (fun i j => cellS m T D (lineN m i) (lineN m j)) ∧ Below w.heap.size w w' := by
  obtain ⟨i0, hi, hz0, hz1, hz2⟩ := info_parts Tryz.infoInt
  obtain ⟨j0, hj, hy0, hy1, hy2⟩ := info_parts Tryz.infoInts
  have hn10 : n ≤ 10 := by omega
  have hn1 : 1 ≤ n := by omega
  have HLS : Hid (Calls Tryz.prog 140 #[.pointer (some ⟨p, o, none⟩)] w fun e w' => ∃ x, e = .returned x ∧ w'.ownsRow w.heap.size 3 1 x n (ints ((List.range n).map fun i => (lineN m i : Int))) ∧ Below w.heap.size w w') := by
    show Calls _ _ _ _ _
    obtain ⟨ao, c, rfl, _, _⟩ := id hq
    rw [hmn, ← lineN_list]
    exact lineSites_any p o r T ao c m v w hm hv hv3 h
  have HCC : Hid (∀ W i j, Below w.heap.size w W → Calls Tryz.prog 184 #[.pointer (some ⟨p, o, none⟩), .int .i64 (lineN m i), .int .i64 (lineN m j)] W fun e w' => e = .returned (.int .i64 (cellS m T D (lineN m i) (lineN m j))) ∧ Below W.heap.size W w') := fun W i j hW => acell_any p o r T D vf m _ _ W hm (lineN_lt m i) (lineN_lt m j) (h.below hW) (hq.below hW)
  have hpl := h.lt
  obtain ⟨F, hF⟩ : ∃ F : Nat → Nat → Int, F = fun i j => cellS m T D (lineN m i) (lineN m j) := ⟨_, rfl⟩
  obtain ⟨S, hS⟩ : ∃ S : Nat → Nat, S = lineN m := ⟨_, rfl⟩
  have HCF : Hid (∀ W i j, Below w.heap.size w W → Calls Tryz.prog 184 #[.pointer (some ⟨p, o, none⟩), .int .i64 (S i), .int .i64 (S j)] W fun e w' => e = .returned (.int .i64 (F i j)) ∧ Below W.heap.size W w') := by
    intro W i j hW
    rw [hF, hS]; exact HCC.out W i j hW
  rw [← hF]
  have e3 : (fun i => (lineN m i : Int)) = fun i => (S i : Int) := by rw [hS]
  rw [e3] at HLS
  clear h hq HCC hF hS e3 hmn hv
  go_enter Tryz.func121, Tryz.ntmps121
  go_wp2_with fail
  refine HLS.out.mono ?_
  rintro e0 w0 ⟨x0, rfl, ho0, hb0⟩
  obtain ⟨g0, c0, cur0, rfl, hg0w, hg0h, _⟩ := own_shape ho0 (by omega)
  have hg0 : g0 < w0.heap.size := own_cells_int ho0
  have HSC : Hid (∀ i, i < n → w0.cell? ⟨g0, i, none⟩ = some (.int .i64 (S i))) := fun i hi => by
    rw [ho0.cellAt i (by omega)]; simp [ints, hi]
  have HB0 := hid hb0
  clear ho0 hb0 HLS hg0h
  have hw0 := HB0.out.size
  go_wp2_with (first
    | (at_make; refine wpList_make_full _ rfl _ _ 31 rfl w0.heap.size 40 j0 (.slice none 0 0) 1 Tryz.underlying31 hj hy0 hy1 .i64 .i64 _ _ n rfl rfl ?m1 ?m2 ?m3 ?m4 ?m5 ?_)
    | fail)
  case m1 => rfl
  case m2 => rfl
  case m3 => rw [hy2]; omega
  case m4 => unfold maxLen; omega
  case m5 => exact Nat.le_refl _
  intro w1 hown1 hgrow1
  have HB1 : Hid (Below w0.heap.size w0 w1) := (Below.refl _ _).grown hgrow1 (Nat.le_refl _) (by simp)
  have HO1 : Hid (w1.ownsRow w0.heap.size 40 1 (.slice (some ⟨w0.heap.size, 0, none⟩) n n) n (rowsTo (fun _ => 0) n 0)) := by
    show World.ownsRow _ _ _ _ _ _ _
    have e : (madeCells #[Value.slice none 0 0] n).toList = rowsTo (fun _ => 0) n 0 := by rw [toList_madeCells_one, rowsTo_zero]
    rw [← e]; simpa using hown1
  clear hown1 hgrow1
  go_wp2
  go_loopw [5, 6, 7] (fun i _ _ wr => ∃ (k : Nat) (G : Nat → Nat), i = .int .i64 k ∧ k ≤ n ∧ Hid (wr.ownsRow w0.heap.size 40 1 (.slice (some ⟨w0.heap.size, 0, none⟩) n n) n (rowsTo G n k)) ∧
      Hid (∀ i, i < k → w0.heap.size < G i ∧ (∃ ci, wr.heap[G i]? = some (.cells ci 3 (0, 0)) ∧ ci.size = n ∧ ∀ j, j < n → ci[j]? = some (.int .i64 (F i j))) ∧ ∀ i', i' < i → G i' < G i) ∧ Hid (Below w0.heap.size w0 wr)) (fun i _ _ _ => n - (intOf i).toNat)
  case atStart => exact ⟨0, fun _ => 0, rfl, by omega, HO1, fun i hi => by omega, HB1⟩
  case round =>
    clear HO1 HB1
    obtain ⟨k, G, rfl, hk, HO, HG, HB⟩ := hrel
    obtain ⟨wo, rfl⟩ : ∃ wo, wo = wr := ⟨_, rfl⟩
    have hbz := HB.out.size
    have hrz := own_cells_int HO.out
    by_cases hlt : k < n
    · go_wp2_with (first
        | (at_make; refine wpList_make_full _ rfl _ _ 40 rfl wo.heap.size 3 i0 (.int .i64 0) 1 Tryz.underlying40 hi hz0 hz1 .i64 .i64 _ _ n rfl rfl ?q1 ?q2 ?q3 ?q4 ?q5 ?_)
        | fail)
      case q1 => rfl
      case q2 => rfl
      case q3 => rw [hz2]; omega
      case q4 => unfold maxLen; omega
      case q5 => exact Nat.le_refl _
      intro w2 hown2 hgrow2
      have HB2 : Hid (Below wo.heap.size wo w2) := (Below.refl _ _).grown hgrow2 (Nat.le_refl _) (by simp)
      have HO2 : Hid (w2.ownsRow wo.heap.size 3 1 (.slice (some ⟨wo.heap.size, 0, none⟩) n n) n (rowTo (fun j => F k j) n 0)) := by
        show World.ownsRow _ _ _ _ _ _ _
        have e : (madeCells #[Value.int .i64 0] n).toList = rowTo (fun j => F k j) n 0 := by rw [toList_madeCells_one, rowTo_zero]
        rw [← e]; simpa using hown2
      clear hown2 hgrow2
      go_wp2
      go_loopw [7] (fun j wr => ∃ q : Nat, j = .int .i64 q ∧ q ≤ n ∧ Hid (wr.ownsRow wo.heap.size 3 1 (.slice (some ⟨wo.heap.size, 0, none⟩) n n) n (rowTo (fun j => F k j) n q)) ∧ Hid (Below wo.heap.size wo wr)) (fun j _ => n - (intOf j).toNat)
      case atStart => exact ⟨0, rfl, by omega, HO2, HB2⟩
      case round =>
        clear HO2 HB2
        obtain ⟨q, rfl, hq, HQ, HB2⟩ := hrel
        have hb2 := HB2.out.size
        by_cases hlq : q < n
        · have s1 : wr.cell? ⟨g0, k, none⟩ = some (.int .i64 (S k)) := ((HB2.out.cell (p := ⟨g0, k, none⟩) (by show g0 < _; omega)).trans (HB.out.cell (p := ⟨g0, k, none⟩) hg0)).trans (HSC.out k hlt)
          have s2 : wr.cell? ⟨g0, q, none⟩ = some (.int .i64 (S q)) := ((HB2.out.cell (p := ⟨g0, q, none⟩) (by show g0 < _; omega)).trans (HB.out.cell (p := ⟨g0, q, none⟩) hg0)).trans (HSC.out q hlq)
          have HC : Hid (∀ W, Below wr.heap.size wr W → Calls Tryz.prog 184 #[.pointer (some ⟨p, o, none⟩), .int .i64 (S k), .int .i64 (S q)] W fun e w' => e = .returned (.int .i64 (F k q)) ∧ Below W.heap.size W w') := fun W hW => HCF.out W k q (HB0.out.trans ((HB.out.trans ((HB2.out.trans (hW.mono hb2)).mono hbz)).mono hw0))
          have ik : (0 : Int) ≤ (k : Int) := by omega
          have iq : (0 : Int) ≤ (q : Int) := by omega
          have jk : (k : Int) < (n : Int) := by omega
          have jq : (q : Int) < (n : Int) := by omega
          have hg0r : g0 < wr.heap.size := by omega
          generalize hsk : S k = sK at *
          generalize hsq : S q = sQ at *
          have hne2 : ¬ g0 = wo.heap.size := by omega
          have HCW : Hid (∀ W, Below wr.heap.size wr W → Calls Tryz.prog 184 #[.pointer (some ⟨p, o, none⟩), .int .i64 sK, .int .i64 sQ] W fun e w' => e = .returned (.int .i64 (F k q)) ∧ w'.cell? ⟨g0, k, none⟩ = some (.int .i64 sK) ∧ w'.cell? ⟨g0, q, none⟩ = some (.int .i64 sQ) ∧ w'.cell? ⟨wo.heap.size, q, none⟩ = some (.int .i64 0) ∧ w'.frozen? ⟨wo.heap.size, q, none⟩ = false ∧ (w'.setCell ⟨wo.heap.size, q, none⟩ (.int .i64 (F k q))).cell? ⟨g0, k, none⟩ = some (.int .i64 sK) ∧ (w'.setCell ⟨wo.heap.size, q, none⟩ (.int .i64 (F k q))).cell? ⟨g0, q, none⟩ = some (.int .i64 sQ) ∧ wo.heap.size < w'.heap.size ∧ Hid (w'.ownsRow wo.heap.size 3 1 (.slice (some ⟨wo.heap.size, 0, none⟩) n n) n (rowTo (fun j => F k j) n q)) ∧ Hid (Below wo.heap.size wo w')) := by
            intro W hW
            refine (HC.out W hW).mono ?_
            rintro e3 w3 ⟨rfl, hb3⟩
            have hbw : Below wr.heap.size wr w3 := hW.trans (hb3.mono hW.size)
            have HQ3 := own_below HQ.out hbw
            have x1 := (hbw.cell (p := ⟨g0, k, none⟩) hg0r).trans s1
            have x2 := (hbw.cell (p := ⟨g0, q, none⟩) hg0r).trans s2
            exact ⟨rfl, x1, x2, (by rw [HQ3.cellAt q (by omega)]; exact rowTo_at hlq), HQ3.frozenAt q, (cell_aside w3 _ hne2).trans x1, (cell_aside w3 _ hne2).trans x2, own_cells_int HQ3, HQ3, HB2.out.trans (hbw.mono hb2)⟩
          generalize hf : F k q = f at *
          have HF := hid hf
          clear hf HC
          go_wp2_with fail
          go_region_held3 (fun w' => w'.cell? ⟨g0, k, none⟩ = some (.int .i64 sK) ∧ w'.cell? ⟨g0, q, none⟩ = some (.int .i64 sQ)) (go_keep) (first | (go_at_call 184; refine (HCW.out _ (by first | exact Below.refl _ _ | exact (Below.refl _ _).drew)).mono ?_; rintro e3 w3 ⟨rfl, x1, x2, x3, x4, x5, x6, x7, HQ3, HB3⟩))
          clear s1 s2 x1 x2 x3 x4 x5 x6
          have HST := hid (HQ3.out.stored q (.int .i64 f)).1
          go_wp2
          go_roundw
          case rel =>
            refine ⟨q + 1, by go_num, by omega, ?_, ?_⟩
            · show World.ownsRow _ _ _ _ _ _ _
              rw [← rowTo_set hlq, HF.out]
              exact own_heap HST.out rfl
            · first | exact (HB3.out.setCell (by exact Nat.le_refl _) _) | exact (HB3.out.setCell (by exact Nat.le_refl _) _).drew
          case measure => simp [intOf]; omega
        · have hqe : q = n := by omega
          subst hqe
          have r1 : wr.cell? ⟨w0.heap.size, k, none⟩ = some (.slice none 0 0) := by
            rw [HB2.out.cell (p := ⟨w0.heap.size, k, none⟩) (by exact hrz), HO.out.cellAt k (by omega)]; exact rowsTo_at hlt
          have HOw : Hid (wr.ownsRow w0.heap.size 40 1 (.slice (some ⟨w0.heap.size, 0, none⟩) q q) q (rowsTo G q k)) := own_below HO.out HB2.out
          have r2 := HOw.out.frozenAt k
          have HST := hide' (HOw.out.stored k (.slice (some ⟨wo.heap.size, 0, none⟩) q q)).1
          have hgz := own_cells_int HQ.out
          go_wp2
          go_roundw
          case rel =>
            refine ⟨k + 1, fun i => if i = k then wo.heap.size else G i, by go_num, by omega, ?_, ?_, ?_⟩
            · show World.ownsRow _ _ _ _ _ _ _
              rw [← rowsTo_set hlt]; exact HST.out
            · intro i hi
              by_cases e : i = k
              · subst e
                obtain ⟨_, cur, hc1, hc2, hc3⟩ := own_row HQ.out
                refine ⟨by simp; omega, ⟨cur, ?_, hc2, fun j hj => by rw [hc3 j hj]; simp [rowTo, hj]⟩, fun i' hi' => ?_⟩
                · dsimp only; rw [if_pos rfl, Below.heap_setCell _ _ _ _ (by show wo.heap.size ≠ w0.heap.size; omega)]; exact hc1
                · dsimp only; rw [if_pos rfl, if_neg (by omega)]
                  obtain ⟨_, ⟨ci, h2, _⟩, _⟩ := HG.out i' hi'
                  exact (Array.getElem?_eq_some_iff.1 h2).1
              · obtain ⟨g1, ⟨ci, g2, g3, g4⟩, g5⟩ := HG.out i (by omega)
                refine ⟨by dsimp only; rw [if_neg e]; exact g1, ⟨ci, ?_, g3, g4⟩, fun i' hi' => by dsimp only; rw [if_neg e, if_neg (by omega)]; exact g5 i' hi'⟩
                dsimp only; rw [if_neg e, Below.heap_setCell _ _ _ _ (by show G i ≠ w0.heap.size; omega), HB2.out.block _ (Array.getElem?_eq_some_iff.1 g2).1]; exact g2
            · exact (HB.out.trans (HB2.out.mono hbz)).setCell (by exact Nat.le_refl _) _
          case measure => simp [intOf]; omega
    · have hke : k = n := by omega
      subst hke
      go_wp2
      go_ret
      have hgo : GridO wo w0.heap.size (.slice (some ⟨w0.heap.size, 0, none⟩) k k) k F := by
        refine ⟨w0.heap.size, G, rfl, ?_, fun i hi => ?_, fun i i' h1 h2 => (HG.out i' h2).2.2 i h1⟩
        · have h := HO.out
          have e : rowsTo G k k = (List.range k).map fun i => Value.slice (some ⟨G i, 0, none⟩) k k := by
            unfold rowsTo; apply List.map_congr_left; intro i hi; rw [if_pos (by simpa using hi)]
          rw [e] at h; exact h
        · obtain ⟨g1, g2, _⟩ := HG.out i hi
          exact ⟨by omega, g2⟩
      exact ⟨_, rfl, hgo.base hw0, HB0.out.trans (HB.out.mono hw0)⟩
end Go.Proofs.YtebinaopncclgabGreatDoor
