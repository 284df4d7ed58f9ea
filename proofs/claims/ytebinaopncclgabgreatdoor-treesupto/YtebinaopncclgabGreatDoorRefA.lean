/- Walks of the document's answer: a text is split, a line's words. -/
import Derived.Test.YtebinaopncclgabGreatDoorSplit
import Derived.Test.YtebinaopncclgabGreatDoorRefP
import Derived.Test.YtebinaopncclgabGreatDoorFrame
namespace Go.Proofs.YtebinaopncclgabGreatDoor
open Go.RowKit Go.IntWalk

set_option maxHeartbeats 800000 in
theorem rsplit_any (c : UInt8) (s : ByteArray) (w : World) (hs : s.size ≤ 2000000) :
    Calls Tryz.prog 94 #[.string s, .int .u8 c.toNat] w fun e w' => ∃ v, e = .returned v ∧ w'.ownsRow w.heap.size 9 1 v (splitB c s.data.toList).length (strs (splitB c s.data.toList)) ∧ Below w.heap.size w w' := by
  obtain ⟨i0, hi, hz0, hz1, hz2⟩ := info_parts Tryz.infoStr
  obtain ⟨l, hl⟩ : ∃ l, l = s.data.toList := ⟨_, rfl⟩
  have hsz : s.size = l.length := by rw [hl]; simp
  have HL : Hid (l = s.data.toList) := hl
  have HSZ : Hid (s.size = l.length) := hsz
  have hs1 : s.size ≤ l.length := by omega
  have hs2 : l.length ≤ s.size := by omega
  clear hl hsz
  go_enter Tryz.func94, Tryz.ntmps94
  go_wp2
  go_loopw [5, 6, 7] (fun v bg i wr => ∃ k b : Nat, k ≤ s.size ∧ b ≤ k ∧ i = .int .i64 k ∧ bg = .int .i64 b ∧ Hid (cuC c l k = (l.drop b).take (k - b)) ∧ (cuP c l k).length ≤ k ∧ wr.ownsRow w.heap.size 9 1 v (cuP c l k).length (strs (cuP c l k)) ∧ Below w.heap.size w wr) (fun _ _ i _ => s.size - (intOf i).toNat)
  case atStart => exact ⟨0, 0, Nat.zero_le _, Nat.le_refl _, rfl, rfl, rfl, Nat.le_refl _, World.ownsRow_nil _ _ _ _, Below.refl _ _⟩
  case round =>
    obtain ⟨k, b, hk, hb, rfl, rfl, HC, hlen, hown, hbel⟩ := hrel
    have hsize := hbel.size
    by_cases hlt : k < s.size
    · have hll : k < l.length := by omega
      have HX : Hid (s[k] = l[k]) := by show s[k] = l[k]; subst HL; rfl
      by_cases hc : l[k] = c
      · have hcb : ((s[k].toNat : Int) == (c.toNat : Int)) = true := by rw [HX.out, hc]; simp
        clear hs1 hs2
        go_wp2_with (first
          | (at_builtin; refine wpList_append_own _ rfl _ _ 148 rfl w.heap.size 9 i0 (.string ByteArray.empty) 1 16 Tryz.underlying148 hi hz0 hz1 hz2 rfl (by decide) _ _ _ rfl (hown.alloc _) ⟨wr.heap.size, 0, none⟩ 1 1 [.string (s.extract b k)] rfl rfl ?c1 ?c2 ?c3 ?c4 ?c5 ?_)
          | go_in)
        case c1 => exact cell_one_new _ _ _
        case c2 => intro u hu; simp at hu; subst hu; rfl
        case c3 => unfold maxLen; omega
        case c4 => omega
        case c5 => simp; omega
        · intro v' w1 hown' hgrow _
          rw [str_cut] at hown'
          have R := own_str hsize hown hbel hown' hgrow
          clear hown' hgrow hown hbel
          go_wp2
          go_roundw
          case rel =>
            obtain ⟨e1, e2⟩ := cu_hit hll hc
            refine ⟨k + 1, k + 1, by omega, Nat.le_refl _, by go_num, by go_num, ?_, ?_, ?_, R.2⟩
            · show _ = _; rw [e2]; simp
            · rw [e1]; simp; omega
            · rw [e1, HC.out]; subst HL; exact R.1
          case measure => simp [intOf]; omega
      · have hcb : ((s[k].toNat : Int) == (c.toNat : Int)) = false := by
          rw [beq_eq_false_iff_ne]; intro e; exact hc (by rw [← HX.out]; exact UInt8.toNat_inj.1 (by omega))
        go_wp2
        go_roundw
        case rel =>
          obtain ⟨e1, e2⟩ := cu_miss hll hc
          refine ⟨k + 1, b, by omega, by omega, by go_num, rfl, ?_, ?_, ?_, hbel⟩
          · show _ = _; rw [e2, HC.out]; exact cut_snoc hb hll
          · rw [e1]; omega
          · rw [e1]; exact hown
        case measure => simp [intOf]; omega
    · have hke : k = s.size := by omega
      subst hke
      go_wp2_with (first
          | (at_builtin; refine wpList_append_own _ rfl _ _ 148 rfl w.heap.size 9 i0 (.string ByteArray.empty) 1 16 Tryz.underlying148 hi hz0 hz1 hz2 rfl (by decide) _ _ _ rfl (hown.alloc _) ⟨wr.heap.size, 0, none⟩ 1 1 [.string (s.extract b s.size)] rfl rfl ?d1 ?d2 ?d3 ?d4 ?d5 ?_)
          | go_in)
      case d1 => exact cell_one_new _ _ _
      case d2 => intro u hu; simp at hu; subst hu; rfl
      case d3 => unfold maxLen; omega
      case d4 => omega
      case d5 => simp; omega
      · intro v' w1 hown' hgrow _
        rw [str_cut] at hown'
        have R := own_str hsize hown hbel hown' hgrow
        clear hown' hgrow hown hbel
        go_wp2
        go_ret
        refine ⟨v', rfl, ?_, R.2⟩
        have e1 := cu_end (c := c) (l := l) (k := s.size) (by omega)
        rw [HC.out] at e1
        subst HL
        rw [e1]; exact R.1


/- a text of digits; its value -/
theorem ne_void (s : ByteArray) : (!s.toList.isEmpty) = decide (1 ≤ s.size) := by
  rw [← decide_eq_emptyBytes]
  by_cases h : s = ByteArray.empty
  · subst h; rfl
  · have : 1 ≤ s.size := by
      rcases Nat.eq_zero_or_pos s.size with h0 | h0
      · exact absurd (ByteArray.size_eq_zero_iff.1 h0) h
      · exact h0
    simp [h, this]
set_option maxHeartbeats 400000 in
theorem rdigits_any (s : ByteArray) (w : World) (hs : s.size ≤ maxLen) :
    Calls Tryz.prog 154 #[.string s] w fun e w' => e = .returned (.bool (digs s.data.toList && decide (1 ≤ s.size))) ∧ w' = w := by
  unfold maxLen at hs
  go_enter Tryz.func154, Tryz.ntmps154
  go_wp2
  go_loop [3] (fun i => ∃ k : Nat, k ≤ s.size ∧ i = .int .i64 k ∧ Hid (digs (s.data.toList.take k) = true)) (fun i => s.size - (intOf i).toNat)
  case atStart => exact ⟨0, Nat.zero_le _, rfl, rfl⟩
  case round =>
    obtain ⟨k, hk, rfl, HD⟩ := hrel
    by_cases hlt : k < s.size
    · have HT := take_snoc s k hlt
      have HD' : Hid (digs (s.data.toList.take (k + 1)) = (digs (s.data.toList.take k) && (decide (48 ≤ (s[k].toNat : Int)) && decide ((s[k].toNat : Int) ≤ 57)))) := by rw [HT]; exact digs_snoc _ _
      clear HT
      by_cases hd : 48 ≤ (s[k].toNat : Int) ∧ (s[k].toNat : Int) ≤ 57
      · obtain ⟨hd1, hd2⟩ := hd
        go_wp2
        go_round
        case rel => exact ⟨k + 1, by omega, by go_num, by show _ = true; rw [HD'.out, HD.out]; simp [hd1, hd2]⟩
        case measure => simp [intOf]; omega
      · have hno : digs s.data.toList = false := digs_take _ (k + 1) (by rw [HD'.out]; simp; intro _ _; omega)
        go_wp2
        all_goals
          go_ret
          exact ⟨ret_bool (by first | rfl | (rw [hno]; rfl)), rfl⟩
    · have hyes : digs s.data.toList = true := by have := HD.out; rw [take_all s k (by omega)] at this; exact this
      have HY := hid hyes
      clear hyes
      go_wp2
      go_ret
      exact ⟨ret_bool (by rw [HY.out, Bool.true_and]; exact ne_void s), by trivial⟩

end Go.Proofs.YtebinaopncclgabGreatDoor
