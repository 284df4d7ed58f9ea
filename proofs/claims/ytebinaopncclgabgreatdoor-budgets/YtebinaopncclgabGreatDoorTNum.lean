/- Walks: a number of a node. -/
import Derived.Test.YtebinaopncclgabGreatDoorBase
import Derived.Test.YtebinaopncclgabGreatDoorFrame
import Derived.Test.YtebinaopncclgabGreatDoorTPlain
namespace Go.Proofs.YtebinaopncclgabGreatDoor
open Go.RowKit Go.IntWalk

/- where a byte stands next -/
def fdN (l : List UInt8) (k : Nat) (c : UInt8) : Nat := k + ((l.drop k).takeWhile (· != c)).length
theorem fn_end {l : List UInt8} {k : Nat} {c : UInt8} (h : l.length ≤ k) : fdN l k c = k := by unfold fdN; rw [List.drop_of_length_le h]; rfl
theorem fn_here {l : List UInt8} {k : Nat} {c : UInt8} (h : k < l.length) (hc : l[k] = c) : fdN l k c = k := by
  unfold fdN; rw [List.drop_eq_getElem_cons h, List.takeWhile_cons, hc]; simp
theorem fn_next {l : List UInt8} {k : Nat} {c : UInt8} (h : k < l.length) (hc : l[k] ≠ c) : fdN l k c = fdN l (k + 1) c := by
  unfold fdN; rw [List.drop_eq_getElem_cons h, List.takeWhile_cons, if_pos (by simpa using hc)]; simp; omega
theorem fn_le (l : List UInt8) (k : Nat) (c : UInt8) : k ≤ fdN l k c ∧ (k ≤ l.length → fdN l k c ≤ l.length) := by
  refine ⟨by unfold fdN; omega, fun h => ?_⟩
  have := ((l.drop k).takeWhile_sublist (· != c)).length_le
  unfold fdN; rw [List.length_drop] at this; omega

set_option maxRecDepth 100000 in
set_option maxHeartbeats 2000000 in
theorem find_any (s : ByteArray) (k : Nat) (c : UInt8) (w : World) (hs : s.size ≤ maxLen) (hk : k ≤ s.size) :
    Calls Tryz.prog 186 #[.string s, .int .i64 k, .int .u8 c.toNat] w fun e w' => e = .returned (.int .i64 (fdN s.data.toList k c)) ∧ w' = w := by
  unfold maxLen at hs
  have hl : s.data.toList.length = s.size := by simp
  go_enter Tryz.func186, Tryz.ntmps186
  go_wp2
  go_loop [7] (fun i => ∃ j : Nat, i = .int .i64 j ∧ j ≤ s.size ∧ Hid (fdN s.data.toList k c = fdN s.data.toList j c)) (fun i => s.size - (intOf i).toNat)
  case atStart => exact ⟨k, rfl, hk, rfl⟩
  case round =>
    obtain ⟨j, rfl, hj, HF⟩ := hrel
    by_cases hlt : j < s.size
    · have HG : Hid (s.data.toList[j]'(by omega) = s[j]) := rfl
      by_cases hc : s[j] = c
      · have he : ((s[j].toNat : Int) == (c.toNat : Int)) = true := by rw [hc]; simp
        have HH : Hid (fdN s.data.toList j c = j) := fn_here (by omega) (by rw [HG.out]; exact hc)
        go_wp2_with fail
        go_ret
        exact ⟨ret_int (by rw [HF.out, HH.out]), rfl⟩
      · have he : ((s[j].toNat : Int) == (c.toNat : Int)) = false := by
          rw [beq_eq_false_iff_ne]; intro h; exact hc (UInt8.toNat_inj.1 (by omega))
        have HH : Hid (fdN s.data.toList j c = fdN s.data.toList (j + 1) c) := fn_next (by omega) (by rw [HG.out]; exact hc)
        go_wp2_with fail
        exact ⟨⟨j + 1, by go_num, by omega, HF.out.trans HH.out⟩, by simp [intOf]; omega⟩
    · have HH : Hid (fdN s.data.toList j c = j) := fn_end (by omega)
      go_wp2_with fail
      go_ret
      exact ⟨ret_int (by rw [HF.out, HH.out]; omega), rfl⟩

theorem retB {a b : Bool} (h : a = b) : Ending.returned (.bool a) = .returned (.bool b) := by rw [h]
theorem missing_any (o : Nat) (k : Int) (w : World) (ho : o ≤ 9000000000000000000) (ho1 : 1 ≤ o) :
    Calls Tryz.prog 149 #[.int .i64 o, .int .i64 k] w fun e w' => e = .returned (.int .i64 (nextT o k)) ∧ w' = w := by
  by_cases h : k = 1
  · subst h
    go_enter Tryz.func149, Tryz.ntmps149
    go_wp2
    go_ret
    exact ⟨by simp [nextT], rfl⟩
  · have hk : (k == 1) = false := by simpa using h
    go_enter Tryz.func149, Tryz.ntmps149
    go_wp2
    go_ret
    refine ⟨?_, rfl⟩
    unfold nextT; rw [if_neg h]
    exact ret_int (by omega)
/- the kind of a letter, none is -1 -/
def kdB (c : UInt8) : Int := if c = 98 then 1 else if c = 100 then 2 else if c = 104 then 3 else if c = 99 then 4 else -1
set_option maxRecDepth 100000 in
theorem kindOf_any (c : UInt8) (w : World) : Calls Tryz.prog 211 #[.int .u8 c.toNat] w fun e w' => e = .returned (.int .i64 (kdB c)) ∧ w' = w := by
  have key : ∀ n : Nat, n < 256 → ∀ d : UInt8, ((c.toNat : Int) == (d.toNat : Int)) = decide (c = d) := fun _ _ d => by
    by_cases h : c = d
    · subst h; simp
    · have : ¬ c.toNat = d.toNat := fun e => h (UInt8.toNat_inj.1 e)
      simp [h]; omega
  have k1 : ((c.toNat : Int) == 98) = decide (c = 98) := key 0 (by omega) 98
  have k2 : ((c.toNat : Int) == 100) = decide (c = 100) := key 0 (by omega) 100
  have k3 : ((c.toNat : Int) == 104) = decide (c = 104) := key 0 (by omega) 104
  have k4 : ((c.toNat : Int) == 99) = decide (c = 99) := key 0 (by omega) 99
  clear key
  by_cases h1 : c = 98
  · have e1 : ((c.toNat : Int) == 98) = true := by rw [k1]; simp [h1]
    go_enter Tryz.func211, Tryz.ntmps211
    go_wp2
    go_ret
    exact ⟨by simp [kdB, h1], rfl⟩
  have e1 : ((c.toNat : Int) == 98) = false := by rw [k1]; simp [h1]
  by_cases h2 : c = 100
  · have e2 : ((c.toNat : Int) == 100) = true := by rw [k2]; simp [h2]
    go_enter Tryz.func211, Tryz.ntmps211
    go_wp2
    go_ret
    exact ⟨by simp [kdB, h2], rfl⟩
  have e2 : ((c.toNat : Int) == 100) = false := by rw [k2]; simp [h2]
  by_cases h3 : c = 104
  · have e3 : ((c.toNat : Int) == 104) = true := by rw [k3]; simp [h3]
    go_enter Tryz.func211, Tryz.ntmps211
    go_wp2
    go_ret
    exact ⟨by simp [kdB, h3], rfl⟩
  have e3 : ((c.toNat : Int) == 104) = false := by rw [k3]; simp [h3]
  by_cases h4 : c = 99
  · have e4 : ((c.toNat : Int) == 99) = true := by rw [k4]; simp [h4]
    go_enter Tryz.func211, Tryz.ntmps211
    go_wp2
    go_ret
    exact ⟨by simp [kdB, h4], rfl⟩
  have e4 : ((c.toNat : Int) == 99) = false := by rw [k4]; simp [h4]
  go_enter Tryz.func211, Tryz.ntmps211
  go_wp2
  go_ret
  exact ⟨by simp [kdB, h1, h2, h3, h4], rfl⟩
set_option maxRecDepth 100000 in
theorem countFits_any (k : Int) (n : Nat) (w : World) (hn : n ≤ 1000) : Calls Tryz.prog 199 #[.int .i64 k, .int .i64 n] w fun e w' => e = .returned (.bool (cntT k n)) ∧ w' = w := by
  by_cases h1 : k = 1
  · subst h1
    go_enter Tryz.func199, Tryz.ntmps199
    go_wp2
    all_goals
      go_ret
      refine ⟨retB ?_, rfl⟩
      rw [Bool.eq_iff_iff]; simp [cntT]; try omega
  have e1 : (k == 1) = false := by simpa using h1
  by_cases h2 : k = 2
  · subst h2
    go_enter Tryz.func199, Tryz.ntmps199
    go_wp2
    all_goals
      go_ret
      refine ⟨retB ?_, rfl⟩
      rw [Bool.eq_iff_iff]; simp [cntT]; try omega
  have e2 : (k == 2) = false := by simpa using h2
  by_cases h3 : k = 3
  · subst h3
    go_enter Tryz.func199, Tryz.ntmps199
    go_wp2
    all_goals
      go_ret
      refine ⟨retB ?_, rfl⟩
      rw [Bool.eq_iff_iff]; simp [cntT]; try omega
  have e3 : (k == 3) = false := by simpa using h3
  by_cases h4 : k = 4
  · subst h4
    go_enter Tryz.func199, Tryz.ntmps199
    go_wp2
    all_goals
      go_ret
      refine ⟨retB ?_, rfl⟩
      rw [Bool.eq_iff_iff]; simp [cntT]; try omega
  have e4 : (k == 4) = false := by simpa using h4
  go_enter Tryz.func199, Tryz.ntmps199
  go_wp2
  go_ret
  exact ⟨by simp [cntT, h1, h2, h3, h4], rfl⟩
end Go.Proofs.YtebinaopncclgabGreatDoor
namespace Go.Proofs.YtebinaopncclgabGreatDoor
open Go.RowKit Go.IntWalk

theorem tn_void (s : ByteArray) : (!s.toList.isEmpty) = decide (1 ≤ s.size) := by
  rw [← decide_eq_emptyBytes]
  by_cases h : s = ByteArray.empty
  · subst h; rfl
  · have : 1 ≤ s.size := by
      rcases Nat.eq_zero_or_pos s.size with h0 | h0
      · exact absurd (ByteArray.size_eq_zero_iff.1 h0) h
      · exact h0
    simp [h, this]
def numP (l : List UInt8) : Int × Bool := match numT l with | some z => (z, true) | none => (0, false)
theorem val_nine {d : List UInt8} (h : digs d = true) (hl : d.length ≤ 9) : val d ≤ 999999999 := by
  have := val_lt d h
  have h2 : 10 ^ d.length ≤ 10 ^ 9 := Nat.pow_le_pow_right (by omega) hl
  have h3 : (10 : Nat) ^ 9 = 1000000000 := by decide
  omega
theorem tn_some {s : ByteArray} (h : 1 ≤ s.size) : s.toList.isEmpty = false := by have := tn_void s; simp [h] at this; simpa using this
theorem tn_none {s : ByteArray} (h : s.size = 0) : s.toList.isEmpty = true := by have := tn_void s; simp [h] at this; simpa using this
theorem tn_list (s : ByteArray) : s.toList = s.data.toList := by rw [ByteArray.toList_eq]
theorem natT_none {d : List UInt8} (h : d.length ≤ 9 → False) : natT d = none := by unfold natT; rw [if_neg (fun hh => h hh.2.2.1)]
theorem natT_zero {d : List UInt8} (h : d.head? = some 48) (h2 : d ≠ [48]) : natT d = none := by unfold natT; rw [if_neg]; rintro ⟨_, _, _, h3, _⟩; exact h3.elim (fun h3 => h3 h) h2
def minusV : Option Nat → Option Int
  | some n => if n = 0 then none else some (-(n : Int))
  | none => none
def plainV : Option Nat → Option Int
  | some n => some (n : Int)
  | none => none
theorem minusV_some {x : Nat} (h : x ≠ 0) : minusV (some x) = some (-(x : Int)) := by unfold minusV; dsimp only; rw [if_neg h]
theorem numT_minus (r : List UInt8) : numT (45 :: r) = minusV (natT r) := by rw [numT_cons, if_pos rfl]; cases natT r <;> rfl
theorem numT_plain {a : UInt8} {r : List UInt8} (h : a ≠ 45) : numT (a :: r) = plainV (natT (a :: r)) := by rw [numT_cons, if_neg h]; cases natT (a :: r) <;> rfl
theorem minus_none {d : List UInt8} (h : natT d = none) : minusV (natT d) = none := by rw [h]; rfl
theorem plain_none {d : List UInt8} (h : natT d = none) : plainV (natT d) = none := by rw [h]; rfl
theorem minus_zero {d : List UInt8} (h : d.head? = some 48) : minusV (natT d) = none := by
  by_cases h2 : d = [48]
  · subst h2; rfl
  · rw [natT_zero h h2]; rfl

set_option maxRecDepth 100000 in
set_option maxHeartbeats 4000000 in
theorem tnumber_any (s : ByteArray) (w : World) (hs : s.size ≤ maxLen) :
    Calls Tryz.prog 225 #[.string s] w fun e w' => e = .returned (.tuple #[.int .i64 (numP s.data.toList).1, .bool (numP s.data.toList).2]) ∧ w' = w := by
  unfold maxLen at hs
  by_cases h0 : s.size = 0
  · have v0 := tn_none h0
    have hn : s.data.toList = [] := List.eq_nil_of_length_eq_zero (by simpa using h0)
    have r1 : numP s.data.toList = (0, false) := by rw [hn]; rfl
    go_enter Tryz.func225, Tryz.ntmps225
    go_wp2
    all_goals
      go_ret2
      exact ⟨ret_ib (by first | rfl | rw [r1]) (by first | rfl | rw [r1]), rfl⟩
  · have h1 : 0 < s.size := by omega
    have v0 := tn_some (s := s) (by omega)
    by_cases hm : s[0] = 45
    · have he : ((s[0].toNat : Int) == 45) = true := by rw [hm]; rfl
      have hz : (s.extract 1 s.size).size = s.size - 1 := by simp
      obtain ⟨D, hD⟩ : ∃ D, s.extract 1 s.size = D := ⟨_, rfl⟩
      rw [hD] at hz
      have hsl : s.data.toList = 45 :: D.data.toList := by
        rw [← hD, Lib.extract_eq]
        show _ = _ :: ((s.data.toList.drop 1).take (s.size - 1)).toArray.toList
        have hl : s.data.toList.length = s.size := by simp
        cases hq : s.data.toList with
        | nil => rw [hq] at hl; simp at hl; omega
        | cons a t =>
          have h2 : s.data.toList[0]? = some s[0] := by rw [List.getElem?_eq_getElem (by omega)]; rfl
          rw [hq] at h2
          have : a = 45 := by simpa [hm] using h2
          rw [hq] at hl
          simp at hl
          rw [this, ← hl]; simp
      have HT : Hid (numT s.data.toList = minusV (natT D.data.toList)) := by show _ = _; rw [hsl, numT_minus]
      have HSL : Hid (s.data.toList = 45 :: D.data.toList) := hsl
      clear hsl
      by_cases hd0 : D.size = 0
      · have hn : D.data.toList = [] := List.eq_nil_of_length_eq_zero (by simpa using hd0)
        have r1 : numP s.data.toList = (0, false) := by unfold numP; rw [HT.out, hn]; rfl
        have v1 := tn_none hd0
        clear HT hn
        go_enter Tryz.func225, Tryz.ntmps225
        go_wp2
        all_goals
          go_ret2
          exact ⟨ret_ib (by first | rfl | rw [r1]) (by first | rfl | rw [r1]), rfl⟩
      have hlen : D.data.toList.length = D.size := by simp
      by_cases h9 : 9 < D.size
      · have hno : numT s.data.toList = none := by rw [HT.out]; exact minus_none (natT_none (fun h => by rw [hlen] at h; omega))
        have v1 : D.toList.isEmpty = false := tn_some (by omega)
        have r1 : numP s.data.toList = (0, false) := by unfold numP; rw [hno]
        clear hlen
        go_enter Tryz.func225, Tryz.ntmps225
        go_wp2
        all_goals
          go_ret2
          exact ⟨ret_ib (by first | rfl | rw [r1]) (by first | rfl | rw [r1]), rfl⟩
      · have h1d : 0 < D.size := by omega
        have v1 : D.toList.isEmpty = false := tn_some (by omega)
        have HD0 : Hid (D.data.toList.head? = some D[0]) := by show _ = _; rw [List.head?_eq_getElem?, List.getElem?_eq_getElem (by omega)]; rfl
        by_cases h48 : D[0] = 48 ∧ True
        · have hno : numT s.data.toList = none := by
            rw [HT.out]; exact minus_zero (by rw [HD0.out, h48.1])
          have r1 : numP s.data.toList = (0, false) := by unfold numP; rw [hno]
          have z1 : ((D[0].toNat : Int) == 48) = true := by rw [h48.1]; rfl
          have z2 : (s.toList == [48]) = false := by rw [tn_list]; exact beq_eq_false_iff_ne.2 (fun h => by have h3 := HSL.out; rw [h] at h3; simp at h3)
          clear hlen HD0 h48
          go_enter Tryz.func225, Tryz.ntmps225
          go_wp2
          all_goals
            go_ret2
            exact ⟨ret_ib (by first | rfl | rw [r1]) (by first | rfl | rw [r1]), rfl⟩
        · have z3 : (((D[0].toNat : Int) == 48) = false) ∨ (((D[0].toNat : Int) == 48) = true ∧ (s.toList == [48]) = true) := by
            left; have : ¬ D[0] = 48 := fun h => h48 ⟨h, trivial⟩; rw [beq_eq_false_iff_ne]; intro h; exact this (UInt8.toNat_inj.1 (by have : (48 : UInt8).toNat = 48 := rfl; omega))
          have HH : Hid (D.data.toList.head? ≠ some 48 ∨ D.data.toList = [48]) := by
            show _ ∨ _
            left; rw [HD0.out]; exact fun h => h48 ⟨Option.some.inj h, trivial⟩
          have D48 : Hid (D.data.toList ≠ [48]) := fun h => h48 ⟨by have := HD0.out; rw [h] at this; simpa using this.symm, trivial⟩
          have HNE : Hid (D.data.toList ≠ []) := fun h => by rw [h] at hlen; simp at hlen; omega
          have HLN : Hid (D.data.toList.length = D.size) := hlen
          clear hlen HD0 h48
          rcases z3 with z3 | ⟨z3, z4⟩
          all_goals
            go_enter Tryz.func225, Tryz.ntmps225
            go_wp2
            go_loop [5, 6] (fun v i => ∃ k : Nat, k ≤ D.size ∧ i = .int .i64 k ∧ v = .int .i64 (val (D.data.toList.take k)) ∧ Hid (digs (D.data.toList.take k) = true)) (fun _ i => D.size - (intOf i).toNat)
            case atStart => exact ⟨0, Nat.zero_le _, rfl, rfl, rfl⟩
            case round =>
              obtain ⟨k, hk, rfl, rfl, HD⟩ := hrel
              have hv := val_nine HD.out (by simp; omega)
              by_cases hlt : k < D.size
              · have HTT := take_snoc D k hlt
                have HS : Hid (val (D.data.toList.take (k + 1)) = 10 * val (D.data.toList.take k) + (D[k].toNat - 48)) := by rw [HTT]; exact val_snoc _ _
                have HD' : Hid (digs (D.data.toList.take (k + 1)) = (digs (D.data.toList.take k) && (decide (48 ≤ (D[k].toNat : Int)) && decide ((D[k].toNat : Int) ≤ 57)))) := by rw [HTT]; exact digs_snoc _ _
                clear HTT
                by_cases hd : 48 ≤ (D[k].toNat : Int) ∧ (D[k].toNat : Int) ≤ 57
                · obtain ⟨hd1, hd2⟩ := hd
                  go_wp2
                  go_round
                  case rel => exact ⟨k + 1, by omega, by go_num, by rw [HS.out]; go_num, by show _ = true; rw [HD'.out, HD.out]; simp [hd1, hd2]⟩
                  case measure => simp [intOf]; omega
                · have hno : numT s.data.toList = none := by
                    rw [HT.out]; refine minus_none ?_
                    unfold natT; rw [if_neg]; rintro ⟨_, h2, _⟩
                    have h3 := digs_take _ (k + 1) (show digs (D.data.toList.take (k + 1)) = false by rw [HD'.out]; simp; intro _ _; omega)
                    rw [h3] at h2; cases h2
                  have r1 : numP s.data.toList = (0, false) := by unfold numP; rw [hno]
                  go_wp2
                  all_goals
                    go_ret2
                    exact ⟨ret_ib (by first | rfl | rw [r1]) (by first | rfl | rw [r1]), rfl⟩
              · have HA : Hid (D.data.toList.take k = D.data.toList) := take_all D k (by omega)
                have HDA : Hid (digs D.data.toList = true) := by show _ = _; rw [← HA.out]; exact HD.out
                have HRV : Hid (val (D.data.toList.take k) ≤ 100000000 → natT D.data.toList = some (val (D.data.toList.take k))) := fun hle => by
                  unfold natT
                  rw [if_pos ⟨HNE.out, HDA.out, by rw [HLN.out]; omega, HH.out, by rw [HA.out] at hle; exact hle⟩, HA.out]
                have HRN : Hid (100000000 < val (D.data.toList.take k) → natT D.data.toList = none) := fun hgt => by
                  unfold natT
                  rw [if_neg]; rintro ⟨_, _, _, _, h5⟩; rw [HA.out] at hgt; omega
                have HVP : Hid (D.data.toList.head? ≠ some 48 → 1 ≤ val (D.data.toList.take k)) := fun hh => by rw [HA.out]; exact val_pos HDA.out HNE.out hh
                clear HA
                generalize val (D.data.toList.take k) = x at *
                by_cases hx : (100000000 : Int) < x
                · have r1 : numP s.data.toList = (0, false) := by unfold numP; rw [HT.out, HRN.out (by omega)]; rfl
                  go_wp2
                  all_goals
                    go_ret2
                    exact ⟨ret_ib (by first | rfl | rw [r1]) (by first | rfl | rw [r1]), rfl⟩
                · have hx1 := HVP.out (HH.out.elim id (fun h => absurd h D48.out))
                  have r1 : numP s.data.toList = (-(x : Int), true) := by unfold numP; rw [HT.out, HRV.out (by omega), minusV_some (by omega)]
                  go_wp2
                  all_goals
                    go_ret2
                    exact ⟨ret_ib (by first | rfl | rw [r1]) (by first | rfl | rw [r1]), rfl⟩
    · have he : ((s[0].toNat : Int) == 45) = false := by
        rw [beq_eq_false_iff_ne]; intro h; exact hm (UInt8.toNat_inj.1 (by have : (45 : UInt8).toNat = 45 := rfl; omega))
      have HT : Hid (numT s.data.toList = plainV (natT s.data.toList)) := by
        show _ = _
        cases hq : s.data.toList with
        | nil => have hl : s.data.toList.length = s.size := by simp
                 rw [hq] at hl; simp at hl; omega
        | cons a t =>
          have h2 : s.data.toList[0]? = some s[0] := by rw [List.getElem?_eq_getElem (by simpa using h1)]; rfl
          rw [hq] at h2
          have : a = s[0] := by simpa using h2
          rw [numT_plain (by rw [this]; exact hm)]
      have hlen : s.data.toList.length = s.size := by simp
      by_cases h9 : 9 < s.size
      · have hno : numT s.data.toList = none := by rw [HT.out]; exact plain_none (natT_none (fun h => by rw [hlen] at h; omega))
        have v1 : s.toList.isEmpty = false := tn_some (by omega)
        have r1 : numP s.data.toList = (0, false) := by unfold numP; rw [hno]
        clear hlen
        go_enter Tryz.func225, Tryz.ntmps225
        go_wp2
        all_goals
          go_ret2
          exact ⟨ret_ib (by first | rfl | rw [r1]) (by first | rfl | rw [r1]), rfl⟩
      · have h1d : 0 < s.size := by omega
        have v1 : s.toList.isEmpty = false := tn_some (by omega)
        have HD0 : Hid (s.data.toList.head? = some s[0]) := by show _ = _; rw [List.head?_eq_getElem?, List.getElem?_eq_getElem (by omega)]; rfl
        by_cases h48 : s[0] = 48 ∧ s.data.toList ≠ [48]
        · have hno : numT s.data.toList = none := by
            rw [HT.out]; exact plain_none (natT_zero (by rw [HD0.out, h48.1]) h48.2)
          have r1 : numP s.data.toList = (0, false) := by unfold numP; rw [hno]
          have z1 : ((s[0].toNat : Int) == 48) = true := by rw [h48.1]; rfl
          have z2 : (s.toList == [48]) = false := by rw [tn_list]; exact beq_eq_false_iff_ne.2 h48.2
          clear hlen HD0 h48
          go_enter Tryz.func225, Tryz.ntmps225
          go_wp2
          all_goals
            go_ret2
            exact ⟨ret_ib (by first | rfl | rw [r1]) (by first | rfl | rw [r1]), rfl⟩
        · have z3 : (((s[0].toNat : Int) == 48) = false) ∨ (((s[0].toNat : Int) == 48) = true ∧ (s.toList == [48]) = true) := by
            by_cases hz : s[0] = 48
            · right
              have : s.data.toList = [48] := Classical.byContradiction fun h => h48 ⟨hz, h⟩
              exact ⟨by rw [hz]; rfl, by rw [tn_list, this]; rfl⟩
            · left; rw [beq_eq_false_iff_ne]; intro h; exact hz (UInt8.toNat_inj.1 (by have : (48 : UInt8).toNat = 48 := rfl; omega))
          have HH : Hid (s.data.toList.head? ≠ some 48 ∨ s.data.toList = [48]) := by
            show _ ∨ _
            by_cases hz : s[0] = 48
            · exact .inr (Classical.byContradiction fun h => h48 ⟨hz, h⟩)
            · left; rw [HD0.out]; exact fun h => hz (Option.some.inj h)
          have HNE : Hid (s.data.toList ≠ []) := fun h => by rw [h] at hlen; simp at hlen; omega
          have HLN : Hid (s.data.toList.length = s.size) := hlen
          clear hlen HD0 h48
          rcases z3 with z3 | ⟨z3, z4⟩
          all_goals
            go_enter Tryz.func225, Tryz.ntmps225
            go_wp2
            go_loop [5, 6] (fun v i => ∃ k : Nat, k ≤ s.size ∧ i = .int .i64 k ∧ v = .int .i64 (val (s.data.toList.take k)) ∧ Hid (digs (s.data.toList.take k) = true)) (fun _ i => s.size - (intOf i).toNat)
            case atStart => exact ⟨0, Nat.zero_le _, rfl, rfl, rfl⟩
            case round =>
              obtain ⟨k, hk, rfl, rfl, HD⟩ := hrel
              have hv := val_nine HD.out (by simp; omega)
              by_cases hlt : k < s.size
              · have HTT := take_snoc s k hlt
                have HS : Hid (val (s.data.toList.take (k + 1)) = 10 * val (s.data.toList.take k) + (s[k].toNat - 48)) := by rw [HTT]; exact val_snoc _ _
                have HD' : Hid (digs (s.data.toList.take (k + 1)) = (digs (s.data.toList.take k) && (decide (48 ≤ (s[k].toNat : Int)) && decide ((s[k].toNat : Int) ≤ 57)))) := by rw [HTT]; exact digs_snoc _ _
                clear HTT
                by_cases hd : 48 ≤ (s[k].toNat : Int) ∧ (s[k].toNat : Int) ≤ 57
                · obtain ⟨hd1, hd2⟩ := hd
                  go_wp2
                  go_round
                  case rel => exact ⟨k + 1, by omega, by go_num, by rw [HS.out]; go_num, by show _ = true; rw [HD'.out, HD.out]; simp [hd1, hd2]⟩
                  case measure => simp [intOf]; omega
                · have hno : numT s.data.toList = none := by
                    rw [HT.out]; refine plain_none ?_
                    unfold natT; rw [if_neg]; rintro ⟨_, h2, _⟩
                    have h3 := digs_take _ (k + 1) (show digs (s.data.toList.take (k + 1)) = false by rw [HD'.out]; simp; intro _ _; omega)
                    rw [h3] at h2; cases h2
                  have r1 : numP s.data.toList = (0, false) := by unfold numP; rw [hno]
                  go_wp2
                  all_goals
                    go_ret2
                    exact ⟨ret_ib (by first | rfl | rw [r1]) (by first | rfl | rw [r1]), rfl⟩
              · have HA : Hid (s.data.toList.take k = s.data.toList) := take_all s k (by omega)
                have HDA : Hid (digs s.data.toList = true) := by show _ = _; rw [← HA.out]; exact HD.out
                have HRV : Hid (val (s.data.toList.take k) ≤ 100000000 → natT s.data.toList = some (val (s.data.toList.take k))) := fun hle => by
                  unfold natT
                  rw [if_pos ⟨HNE.out, HDA.out, by rw [HLN.out]; omega, HH.out, by rw [HA.out] at hle; exact hle⟩, HA.out]
                have HRN : Hid (100000000 < val (s.data.toList.take k) → natT s.data.toList = none) := fun hgt => by
                  unfold natT
                  rw [if_neg]; rintro ⟨_, _, _, _, h5⟩; rw [HA.out] at hgt; omega
                have HVP : Hid (s.data.toList.head? ≠ some 48 → 1 ≤ val (s.data.toList.take k)) := fun hh => by rw [HA.out]; exact val_pos HDA.out HNE.out hh
                clear HA
                generalize val (s.data.toList.take k) = x at *
                by_cases hx : (100000000 : Int) < x
                · have r1 : numP s.data.toList = (0, false) := by unfold numP; rw [HT.out, HRN.out (by omega)]; rfl
                  go_wp2
                  all_goals
                    go_ret2
                    exact ⟨ret_ib (by first | rfl | rw [r1]) (by first | rfl | rw [r1]), rfl⟩
                · have r1 : numP s.data.toList = ((x : Int), true) := by unfold numP; rw [HT.out, HRV.out (by omega)]; rfl
                  go_wp2
                  all_goals
                    go_ret2
                    exact ⟨ret_ib (by first | rfl | rw [r1]) (by first | rfl | rw [r1]), rfl⟩
end Go.Proofs.YtebinaopncclgabGreatDoor
