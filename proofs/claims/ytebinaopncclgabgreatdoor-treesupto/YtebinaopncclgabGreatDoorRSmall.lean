/- Walks of the document's answer: a number of a tree's text. -/
import Derived.Test.YtebinaopncclgabGreatDoorRTree
namespace Go.Proofs.YtebinaopncclgabGreatDoor
open Go.RowKit Go.IntWalk

def SmallLeft (w : World) (l : List UInt8) (e : Ending) (w' : World) : Prop := (∃ z, e = .returned (.tuple #[.int .i64 z, .bool (numT l).isSome]) ∧ ∀ x, numT l = some x → z = x) ∧ Below w.heap.size w w'
theorem small_no {w w' : World} {l : List UInt8} {e : Ending} {z : Int} (h : numT l = none) (he : e = .returned (.tuple #[.int .i64 z, .bool false])) (hb : Below w.heap.size w w') : SmallLeft w l e w' := ⟨⟨z, by rw [h]; exact he, fun x hx => by rw [h] at hx; cases hx⟩, hb⟩
theorem small_yes {w w' : World} {l : List UInt8} {e : Ending} {z : Int} (h : numT l = some z) (he : e = .returned (.tuple #[.int .i64 z, .bool true])) (hb : Below w.heap.size w w') : SmallLeft w l e w' := ⟨⟨z, by rw [h]; exact he, fun x hx => by rw [h] at hx; cases hx; rfl⟩, hb⟩

set_option maxRecDepth 100000 in
set_option maxHeartbeats 4000000 in
theorem small_any (s : ByteArray) (w : World) (hs : s.size ≤ 2000000) : Calls Tryz.prog 188 #[.string s] w (SmallLeft w s.data.toList) := by
  by_cases hA : 1 < s.size
  · have hA0 : 0 < s.size := by omega
    have hl : s.data.toList.length = s.size := by simp
    have hg0 : s.data.toList.getD 0 0 = s[0] := by rw [List.getD_eq_getElem?_getD, List.getElem?_eq_getElem (by omega)]; rfl
    by_cases hm : s[0] = 45
    · have he : ((s[0].toNat : Int) == 45) = true := by rw [hm]; rfl
      have hz : (s.extract 1 s.size).size = s.size - 1 := by simp
      obtain ⟨D, hD⟩ : ∃ D, s.extract 1 s.size = D := ⟨_, rfl⟩
      rw [hD] at hz
      have hcond : 1 < s.data.toList.length ∧ s.data.toList.getD 0 0 = 45 := ⟨by omega, by rw [hg0, hm]⟩
      have HBR : bareT s.data.toList = D.data.toList := by
        unfold bareT; rw [if_pos hcond, ← hD, Lib.extract_eq]
        show _ = ((s.data.toList.drop 1).take (s.size - 1)).toArray.toList
        rw [List.take_of_length_le (by simp)]
      have HSG : signT s.data.toList = (-(val D.data.toList : Int)) := by unfold signT; rw [if_pos hcond, HBR]
      have hDs : D.size < s.size := by omega
      clear hl hg0 hcond
      have HZ : Hid (signT s.data.toList = (-(val D.data.toList : Int))) := HSG
      by_cases hg : digs D.data.toList = true ∧ 1 ≤ D.size ∧ D.size ≤ 9
      · have hv := val_nine hg.1 (by simpa using hg.2.2)
        have b1 : (digs D.data.toList && decide (1 ≤ D.size)) = true := by rw [hg.1, decide_eq_true hg.2.1]; rfl
        have hdl : ¬ (9 < D.size) := by omega
        have HV : Hid (∀ W, Calls Tryz.prog 202 #[.string D] W fun e w' => e = .returned (.int .i64 (val D.data.toList)) ∧ w' = W) := fun W => rvalue9 D W hg.2.2 hg.1
        have HNO := hid (numT_no (l := s.data.toList))
        have HYE := hid (numT_sign (l := s.data.toList))
        rw [HZ.out] at HNO HYE
        have HDC : Hid (∀ W, Calls Tryz.prog 160 #[.int .i64 (-(val D.data.toList : Int))] W fun e w' => e = .returned (.string ⟨(decT (-(val D.data.toList : Int))).toArray⟩) ∧ Below W.heap.size W w') := fun W => decimalT_any _ W (by omega) (by omega)
        generalize hvv : val D.data.toList = v at *
        clear hg hvv HZ HSG
        by_cases q1 : decT (-(v : Int)) = s.data.toList
        · have c1 : (decT (-(v : Int)) == s.toList) = true := by rw [tn_list]; simpa using q1
          by_cases q2 : -100000000 ≤ (-(v : Int)) ∧ (-(v : Int)) ≤ 100000000
          · have HOK : Hid (numT s.data.toList = some (-(v : Int))) := HYE.out.2 ⟨q1, q2.1, q2.2⟩
            obtain ⟨q3, q4⟩ := q2
            clear q1 HNO HYE
            go_enter Tryz.func188, Tryz.ntmps188
            go_wp2_with fail
            refine (rdigits_any D _ (by unfold maxLen; omega)).mono ?_
            rintro e1 w1 ⟨rfl, rfl⟩
            rw [b1]
            go_wp2_with fail
            refine (HV.out _).mono ?_
            rintro e2 w2 ⟨rfl, rfl⟩
            go_wp2_with fail
            refine (HDC.out _).mono ?_
            rintro e3 w3 ⟨rfl, hb3⟩
            have HB3 := hid hb3
            clear hb3 HV HDC
            go_wp2
            go_ret2
            exact small_yes HOK.out rfl HB3.out
          · have HOK : Hid (numT s.data.toList = none) := HNO.out (fun h => q2 (HYE.out.1 h).2)
            clear q1 HNO HYE
            have q3 : ¬ (-100000000 ≤ (-(v : Int))) := fun h => q2 ⟨h, by omega⟩
            clear q2
            go_enter Tryz.func188, Tryz.ntmps188
            go_wp2_with fail
            refine (rdigits_any D _ (by unfold maxLen; omega)).mono ?_
            rintro e1 w1 ⟨rfl, rfl⟩
            rw [b1]
            go_wp2_with fail
            refine (HV.out _).mono ?_
            rintro e2 w2 ⟨rfl, rfl⟩
            go_wp2_with fail
            refine (HDC.out _).mono ?_
            rintro e3 w3 ⟨rfl, hb3⟩
            have HB3 := hid hb3
            clear hb3 HV HDC
            go_wp2
            go_ret2
            exact small_no HOK.out rfl HB3.out
        · have c1 : (decT (-(v : Int)) == s.toList) = false := by rw [tn_list]; simpa using q1
          have HOK : Hid (numT s.data.toList = none) := HNO.out (fun h => q1 (HYE.out.1 h).1)
          clear q1 HNO HYE
          go_enter Tryz.func188, Tryz.ntmps188
          go_wp2_with fail
          refine (rdigits_any D _ (by unfold maxLen; omega)).mono ?_
          rintro e1 w1 ⟨rfl, rfl⟩
          rw [b1]
          go_wp2_with fail
          refine (HV.out _).mono ?_
          rintro e2 w2 ⟨rfl, rfl⟩
          go_wp2_with fail
          refine (HDC.out _).mono ?_
          rintro e3 w3 ⟨rfl, hb3⟩
          have HB3 := hid hb3
          clear hb3 HV HDC
          go_wp2
          go_ret2
          exact small_no HOK.out rfl HB3.out
      · have HOK : Hid (numT s.data.toList = none) := by
          show _ = _
          cases hn : numT s.data.toList with
          | none => rfl
          | some x =>
            obtain ⟨k1, k2, k3, _⟩ := numT_bare hn
            rw [HBR] at k1 k2 k3
            refine absurd ⟨k1, ?_, by simpa using k3⟩ hg
            rcases Nat.eq_zero_or_pos D.size with h0 | h0
            · exact absurd (List.eq_nil_of_length_eq_zero (by simpa using h0)) k2
            · exact h0
        by_cases b1 : (digs D.data.toList && decide (1 ≤ D.size)) = true
        · have hdl : 9 < D.size := by
            rw [Bool.and_eq_true, decide_eq_true_eq] at b1
            false_or_by_contra; rename_i hc; exact hg ⟨b1.1, b1.2, by omega⟩
          clear hg HZ HSG
          go_enter Tryz.func188, Tryz.ntmps188
          go_wp2_with fail
          refine (rdigits_any D _ (by unfold maxLen; omega)).mono ?_
          rintro e1 w1 ⟨rfl, rfl⟩
          rw [b1]
          go_wp2
          go_ret2
          exact small_no HOK.out rfl (Below.refl _ _)
        · have b1 : (digs D.data.toList && decide (1 ≤ D.size)) = false := by simpa using b1
          clear hg HZ HSG
          go_enter Tryz.func188, Tryz.ntmps188
          go_wp2_with fail
          refine (rdigits_any D _ (by unfold maxLen; omega)).mono ?_
          rintro e1 w1 ⟨rfl, rfl⟩
          rw [b1]
          go_wp2
          go_ret2
          exact small_no HOK.out rfl (Below.refl _ _)
    · have he : ((s[0].toNat : Int) == 45) = false := by
        rw [beq_eq_false_iff_ne]; intro h; exact hm (UInt8.toNat_inj.1 (by have : (45 : UInt8).toNat = 45 := rfl; omega))
      have hcond : ¬ (1 < s.data.toList.length ∧ s.data.toList.getD 0 0 = 45) := fun h => hm (by rw [← hg0]; exact h.2)
      have HBR : bareT s.data.toList = s.data.toList := by unfold bareT; rw [if_neg hcond]
      have HSG : signT s.data.toList = ((val s.data.toList : Nat) : Int) := by unfold signT; rw [if_neg hcond, HBR]
      have hDs : ¬ (s.size < s.size) := by omega
      clear hl hg0 hcond
      have HZ : Hid (signT s.data.toList = ((val s.data.toList : Nat) : Int)) := HSG
      by_cases hg : digs s.data.toList = true ∧ 1 ≤ s.size ∧ s.size ≤ 9
      · have hv := val_nine hg.1 (by simpa using hg.2.2)
        have b1 : (digs s.data.toList && decide (1 ≤ s.size)) = true := by rw [hg.1, decide_eq_true hg.2.1]; rfl
        have hdl : ¬ (9 < s.size) := by omega
        have HV : Hid (∀ W, Calls Tryz.prog 202 #[.string s] W fun e w' => e = .returned (.int .i64 (val s.data.toList)) ∧ w' = W) := fun W => rvalue9 s W hg.2.2 hg.1
        have HNO := hid (numT_no (l := s.data.toList))
        have HYE := hid (numT_sign (l := s.data.toList))
        rw [HZ.out] at HNO HYE
        have HDC : Hid (∀ W, Calls Tryz.prog 160 #[.int .i64 ((val s.data.toList : Nat) : Int)] W fun e w' => e = .returned (.string ⟨(decT ((val s.data.toList : Nat) : Int)).toArray⟩) ∧ Below W.heap.size W w') := fun W => decimalT_any _ W (by omega) (by omega)
        generalize hvv : val s.data.toList = v at *
        clear hg hvv HZ HSG
        by_cases q1 : decT (v : Int) = s.data.toList
        · have c1 : (decT (v : Int) == s.toList) = true := by rw [tn_list]; simpa using q1
          by_cases q2 : -100000000 ≤ (v : Int) ∧ (v : Int) ≤ 100000000
          · have HOK : Hid (numT s.data.toList = some (v : Int)) := HYE.out.2 ⟨q1, q2.1, q2.2⟩
            obtain ⟨q3, q4⟩ := q2
            clear q1 HNO HYE
            go_enter Tryz.func188, Tryz.ntmps188
            go_wp2_with fail
            refine (rdigits_any s _ (by unfold maxLen; omega)).mono ?_
            rintro e1 w1 ⟨rfl, rfl⟩
            rw [b1]
            go_wp2_with fail
            refine (HV.out _).mono ?_
            rintro e2 w2 ⟨rfl, rfl⟩
            go_wp2_with fail
            refine (HDC.out _).mono ?_
            rintro e3 w3 ⟨rfl, hb3⟩
            have HB3 := hid hb3
            clear hb3 HV HDC
            go_wp2
            go_ret2
            exact small_yes HOK.out rfl HB3.out
          · have HOK : Hid (numT s.data.toList = none) := HNO.out (fun h => q2 (HYE.out.1 h).2)
            clear q1 HNO HYE
            have q3 : -100000000 ≤ (v : Int) := by omega
            have q4 : ¬ ((v : Int) ≤ 100000000) := fun h => q2 ⟨q3, h⟩
            have q5 : decide ((v : Int) ≤ 100000000) = false := by simpa using q4
            clear q2
            go_enter Tryz.func188, Tryz.ntmps188
            go_wp2_with fail
            refine (rdigits_any s _ (by unfold maxLen; omega)).mono ?_
            rintro e1 w1 ⟨rfl, rfl⟩
            rw [b1]
            go_wp2_with fail
            refine (HV.out _).mono ?_
            rintro e2 w2 ⟨rfl, rfl⟩
            go_wp2_with fail
            refine (HDC.out _).mono ?_
            rintro e3 w3 ⟨rfl, hb3⟩
            have HB3 := hid hb3
            clear hb3 HV HDC
            go_wp2
            go_ret2
            exact small_no HOK.out rfl HB3.out
        · have c1 : (decT (v : Int) == s.toList) = false := by rw [tn_list]; simpa using q1
          have HOK : Hid (numT s.data.toList = none) := HNO.out (fun h => q1 (HYE.out.1 h).1)
          clear q1 HNO HYE
          go_enter Tryz.func188, Tryz.ntmps188
          go_wp2_with fail
          refine (rdigits_any s _ (by unfold maxLen; omega)).mono ?_
          rintro e1 w1 ⟨rfl, rfl⟩
          rw [b1]
          go_wp2_with fail
          refine (HV.out _).mono ?_
          rintro e2 w2 ⟨rfl, rfl⟩
          go_wp2_with fail
          refine (HDC.out _).mono ?_
          rintro e3 w3 ⟨rfl, hb3⟩
          have HB3 := hid hb3
          clear hb3 HV HDC
          go_wp2
          go_ret2
          exact small_no HOK.out rfl HB3.out
      · have HOK : Hid (numT s.data.toList = none) := by
          show _ = _
          cases hn : numT s.data.toList with
          | none => rfl
          | some x =>
            obtain ⟨k1, k2, k3, _⟩ := numT_bare hn
            rw [HBR] at k1 k2 k3
            refine absurd ⟨k1, ?_, by simpa using k3⟩ hg
            rcases Nat.eq_zero_or_pos s.size with h0 | h0
            · exact absurd (List.eq_nil_of_length_eq_zero (by simpa using h0)) k2
            · exact h0
        by_cases b1 : (digs s.data.toList && decide (1 ≤ s.size)) = true
        · have hdl : 9 < s.size := by
            rw [Bool.and_eq_true, decide_eq_true_eq] at b1
            false_or_by_contra; rename_i hc; exact hg ⟨b1.1, b1.2, by omega⟩
          clear hg HZ HSG
          go_enter Tryz.func188, Tryz.ntmps188
          go_wp2_with fail
          refine (rdigits_any s _ (by unfold maxLen; omega)).mono ?_
          rintro e1 w1 ⟨rfl, rfl⟩
          rw [b1]
          go_wp2
          go_ret2
          exact small_no HOK.out rfl (Below.refl _ _)
        · have b1 : (digs s.data.toList && decide (1 ≤ s.size)) = false := by simpa using b1
          clear hg HZ HSG
          go_enter Tryz.func188, Tryz.ntmps188
          go_wp2_with fail
          refine (rdigits_any s _ (by unfold maxLen; omega)).mono ?_
          rintro e1 w1 ⟨rfl, rfl⟩
          rw [b1]
          go_wp2
          go_ret2
          exact small_no HOK.out rfl (Below.refl _ _)
  · have hl : s.data.toList.length = s.size := by simp
    have hcond : ¬ (1 < s.data.toList.length ∧ s.data.toList.getD 0 0 = 45) := fun h => hA (by omega)
    have HBR : bareT s.data.toList = s.data.toList := by unfold bareT; rw [if_neg hcond]
    have HSG : signT s.data.toList = ((val s.data.toList : Nat) : Int) := by unfold signT; rw [if_neg hcond, HBR]
    have hDs : ¬ (s.size < s.size) := by omega
    clear hl hcond
    have HZ : Hid (signT s.data.toList = ((val s.data.toList : Nat) : Int)) := HSG
    by_cases hg : digs s.data.toList = true ∧ 1 ≤ s.size ∧ s.size ≤ 9
    · have hv := val_nine hg.1 (by simpa using hg.2.2)
      have b1 : (digs s.data.toList && decide (1 ≤ s.size)) = true := by rw [hg.1, decide_eq_true hg.2.1]; rfl
      have hdl : ¬ (9 < s.size) := by omega
      have HV : Hid (∀ W, Calls Tryz.prog 202 #[.string s] W fun e w' => e = .returned (.int .i64 (val s.data.toList)) ∧ w' = W) := fun W => rvalue9 s W hg.2.2 hg.1
      have HNO := hid (numT_no (l := s.data.toList))
      have HYE := hid (numT_sign (l := s.data.toList))
      rw [HZ.out] at HNO HYE
      have HDC : Hid (∀ W, Calls Tryz.prog 160 #[.int .i64 ((val s.data.toList : Nat) : Int)] W fun e w' => e = .returned (.string ⟨(decT ((val s.data.toList : Nat) : Int)).toArray⟩) ∧ Below W.heap.size W w') := fun W => decimalT_any _ W (by omega) (by omega)
      generalize hvv : val s.data.toList = v at *
      clear hg hvv HZ HSG
      by_cases q1 : decT (v : Int) = s.data.toList
      · have c1 : (decT (v : Int) == s.toList) = true := by rw [tn_list]; simpa using q1
        by_cases q2 : -100000000 ≤ (v : Int) ∧ (v : Int) ≤ 100000000
        · have HOK : Hid (numT s.data.toList = some (v : Int)) := HYE.out.2 ⟨q1, q2.1, q2.2⟩
          obtain ⟨q3, q4⟩ := q2
          clear q1 HNO HYE
          go_enter Tryz.func188, Tryz.ntmps188
          go_wp2_with fail
          refine (rdigits_any s _ (by unfold maxLen; omega)).mono ?_
          rintro e1 w1 ⟨rfl, rfl⟩
          rw [b1]
          go_wp2_with fail
          refine (HV.out _).mono ?_
          rintro e2 w2 ⟨rfl, rfl⟩
          go_wp2_with fail
          refine (HDC.out _).mono ?_
          rintro e3 w3 ⟨rfl, hb3⟩
          have HB3 := hid hb3
          clear hb3 HV HDC
          go_wp2
          go_ret2
          exact small_yes HOK.out rfl HB3.out
        · have HOK : Hid (numT s.data.toList = none) := HNO.out (fun h => q2 (HYE.out.1 h).2)
          clear q1 HNO HYE
          have q3 : -100000000 ≤ (v : Int) := by omega
          have q4 : ¬ ((v : Int) ≤ 100000000) := fun h => q2 ⟨q3, h⟩
          have q5 : decide ((v : Int) ≤ 100000000) = false := by simpa using q4
          clear q2
          go_enter Tryz.func188, Tryz.ntmps188
          go_wp2_with fail
          refine (rdigits_any s _ (by unfold maxLen; omega)).mono ?_
          rintro e1 w1 ⟨rfl, rfl⟩
          rw [b1]
          go_wp2_with fail
          refine (HV.out _).mono ?_
          rintro e2 w2 ⟨rfl, rfl⟩
          go_wp2_with fail
          refine (HDC.out _).mono ?_
          rintro e3 w3 ⟨rfl, hb3⟩
          have HB3 := hid hb3
          clear hb3 HV HDC
          go_wp2
          go_ret2
          exact small_no HOK.out rfl HB3.out
      · have c1 : (decT (v : Int) == s.toList) = false := by rw [tn_list]; simpa using q1
        have HOK : Hid (numT s.data.toList = none) := HNO.out (fun h => q1 (HYE.out.1 h).1)
        clear q1 HNO HYE
        go_enter Tryz.func188, Tryz.ntmps188
        go_wp2_with fail
        refine (rdigits_any s _ (by unfold maxLen; omega)).mono ?_
        rintro e1 w1 ⟨rfl, rfl⟩
        rw [b1]
        go_wp2_with fail
        refine (HV.out _).mono ?_
        rintro e2 w2 ⟨rfl, rfl⟩
        go_wp2_with fail
        refine (HDC.out _).mono ?_
        rintro e3 w3 ⟨rfl, hb3⟩
        have HB3 := hid hb3
        clear hb3 HV HDC
        go_wp2
        go_ret2
        exact small_no HOK.out rfl HB3.out
    · have HOK : Hid (numT s.data.toList = none) := by
        show _ = _
        cases hn : numT s.data.toList with
        | none => rfl
        | some x =>
          obtain ⟨k1, k2, k3, _⟩ := numT_bare hn
          rw [HBR] at k1 k2 k3
          refine absurd ⟨k1, ?_, by simpa using k3⟩ hg
          rcases Nat.eq_zero_or_pos s.size with h0 | h0
          · exact absurd (List.eq_nil_of_length_eq_zero (by simpa using h0)) k2
          · exact h0
      by_cases b1 : (digs s.data.toList && decide (1 ≤ s.size)) = true
      · have hdl : 9 < s.size := by
          rw [Bool.and_eq_true, decide_eq_true_eq] at b1
          false_or_by_contra; rename_i hc; exact hg ⟨b1.1, b1.2, by omega⟩
        exact absurd hdl (by omega)
      · have b1 : (digs s.data.toList && decide (1 ≤ s.size)) = false := by simpa using b1
        clear hg HZ HSG
        go_enter Tryz.func188, Tryz.ntmps188
        go_wp2_with fail
        refine (rdigits_any s _ (by unfold maxLen; omega)).mono ?_
        rintro e1 w1 ⟨rfl, rfl⟩
        rw [b1]
        go_wp2
        go_ret2
        exact small_no HOK.out rfl (Below.refl _ _)
end Go.Proofs.YtebinaopncclgabGreatDoor
