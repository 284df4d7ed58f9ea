/- Walks of the document's answer: a text is split, a line's words. -/
import Derived.Test.YtebinaopncclgabGreatDoorSplit
import Derived.Test.YtebinaopncclgabGreatDoorRefP
import Derived.Test.YtebinaopncclgabGreatDoorFrame
namespace Go.Proofs.YtebinaopncclgabGreatDoor
open Go.RowKit Go.IntWalk

set_option maxHeartbeats 800000 in
theorem rsplit_any (c : UInt8) (s : ByteArray) (w : World) (hs : s.size ≤ 2000000) :
    Calls Tryz.prog 94 #[.string s, .int .u8 c.toNat] w fun e w' => ∃ v, e = .returned v ∧ w'.ownsRow w.heap.size 9 1 v (splitB c s.data.toList).length (strs (splitB c s.data.toList)) ∧ Below w.heap.size w w' := by
  obtain ⟨i0, hi, hz0, hz1, hz2⟩ := info_parts Tryz.infoStr
  obtain ⟨l, hl⟩ : ∃ l, l = s.data.toList := ⟨_, rfl⟩
  have hsz : s.size = l.length := by rw [hl]; simp
  have HL : Hid (l = s.data.toList) := hl
  have HSZ : Hid (s.size = l.length) := hsz
  have hs1 : s.size ≤ l.length := by omega
  have hs2 : l.length ≤ s.size := by omega
  clear hl hsz
  go_enter Tryz.func94, Tryz.ntmps94
  go_wp2
  go_loopw [5, 6, 7] (fun v bg i wr => ∃ k b : Nat, k ≤ s.size ∧ b ≤ k ∧ i = .int .i64 k ∧ bg = .int .i64 b ∧ Hid (cuC c l k = (l.drop b).take (k - b)) ∧ (cuP c l k).length ≤ k ∧ wr.ownsRow w.heap.size 9 1 v (cuP c l k).length (strs (cuP c l k)) ∧ Below w.heap.size w wr) (fun _ _ i _ => s.size - (intOf i).toNat)
  case atStart => exact ⟨0, 0, Nat.zero_le _, Nat.le_refl _, rfl, rfl, rfl, Nat.le_refl _, World.ownsRow_nil _ _ _ _, Below.refl _ _⟩
  case round =>
    obtain ⟨k, b, hk, hb, rfl, rfl, HC, hlen, hown, hbel⟩ := hrel
    have hsize := hbel.size
    by_cases hlt : k < s.size
    · have hll : k < l.length := by omega
      have HX : Hid (s[k] = l[k]) := by show s[k] = l[k]; subst HL; rfl
      by_cases hc : l[k] = c
      · have hcb : ((s[k].toNat : Int) == (c.toNat : Int)) = true := by rw [HX.out, hc]; simp
        clear hs1 hs2
        go_wp2_with (first
          | (at_builtin; refine wpList_append_own _ rfl _ _ 148 rfl w.heap.size 9 i0 (.string ByteArray.empty) 1 16 Tryz.underlying148 hi hz0 hz1 hz2 rfl (by decide) _ _ _ rfl (hown.alloc _) ⟨wr.heap.size, 0, none⟩ 1 1 [.string (s.extract b k)] rfl rfl ?c1 ?c2 ?c3 ?c4 ?c5 ?_)
          | go_in)
        case c1 => exact cell_one_new _ _ _
        case c2 => intro u hu; simp at hu; subst hu; rfl
        case c3 => unfold maxLen; omega
        case c4 => omega
        case c5 => simp; omega
        · intro v' w1 hown' hgrow _
          rw [str_cut] at hown'
          have R := own_str hsize hown hbel hown' hgrow
          clear hown' hgrow hown hbel
          go_wp2
          go_roundw
          case rel =>
            obtain ⟨e1, e2⟩ := cu_hit hll hc
            refine ⟨k + 1, k + 1, by omega, Nat.le_refl _, by go_num, by go_num, ?_, ?_, ?_, R.2⟩
            · show _ = _; rw [e2]; simp
            · rw [e1]; simp; omega
            · rw [e1, HC.out]; subst HL; exact R.1
          case measure => simp [intOf]; omega
      · have hcb : ((s[k].toNat : Int) == (c.toNat : Int)) = false := by
          rw [beq_eq_false_iff_ne]; intro e; exact hc (by rw [← HX.out]; exact UInt8.toNat_inj.1 (by omega))
        go_wp2
        go_roundw
        case rel =>
          obtain ⟨e1, e2⟩ := cu_miss hll hc
          refine ⟨k + 1, b, by omega, by omega, by go_num, rfl, ?_, ?_, ?_, hbel⟩
          · show _ = _; rw [e2, HC.out]; exact cut_snoc hb hll
          · rw [e1]; omega
          · rw [e1]; exact hown
        case measure => simp [intOf]; omega
    · have hke : k = s.size := by omega
      subst hke
      go_wp2_with (first
          | (at_builtin; refine wpList_append_own _ rfl _ _ 148 rfl w.heap.size 9 i0 (.string ByteArray.empty) 1 16 Tryz.underlying148 hi hz0 hz1 hz2 rfl (by decide) _ _ _ rfl (hown.alloc _) ⟨wr.heap.size, 0, none⟩ 1 1 [.string (s.extract b s.size)] rfl rfl ?d1 ?d2 ?d3 ?d4 ?d5 ?_)
          | go_in)
      case d1 => exact cell_one_new _ _ _
      case d2 => intro u hu; simp at hu; subst hu; rfl
      case d3 => unfold maxLen; omega
      case d4 => omega
      case d5 => simp; omega
      · intro v' w1 hown' hgrow _
        rw [str_cut] at hown'
        have R := own_str hsize hown hbel hown' hgrow
        clear hown' hgrow hown hbel
        go_wp2
        go_ret
        refine ⟨v', rfl, ?_, R.2⟩
        have e1 := cu_end (c := c) (l := l) (k := s.size) (by omega)
        rw [HC.out] at e1
        subst HL
        rw [e1]; exact R.1


theorem full_le (ls : List (List UInt8)) (k : Nat) : (full (ls.take k)).length ≤ k := by
  unfold full; have h1 := List.length_filter_le (fun x : List UInt8 => !x.isEmpty) (ls.take k); have h2 := List.length_take_le k ls; omega

set_option maxHeartbeats 1000000 in
theorem words_any (s : ByteArray) (w : World) (hs : s.size ≤ 100000) :
    Calls Tryz.prog 95 #[.string s] w fun e w' => ∃ v, e = .returned v ∧ w'.ownsRow w.heap.size 9 1 v (flds s.data.toList).length (strs (flds s.data.toList)) ∧ Below w.heap.size w w' := by
  obtain ⟨i0, hi, hz0, hz1, hz2⟩ := info_parts Tryz.infoStr
  have hcon := rsplit_any 32 s w (by omega)
  have hcnt := split_count 32 s.data.toList
  have hl1 : 1 ≤ (splitB 32 s.data.toList).length := by unfold splitB; simp
  have hln : s.data.toList.length = s.size := by simp
  have hfull := flds_full s.data.toList
  generalize splitB 32 s.data.toList = ls at *
  have hl2 : ls.length ≤ 100001 := by omega
  have HC := hid hcon
  have HF := hid hfull
  clear hcon hcnt hln hfull
  go_enter Tryz.func95, Tryz.ntmps95
  go_wp2_with fail
  refine HC.out.mono ?_
  rintro e1 w1 ⟨v1, rfl, hown1, hb1⟩
  obtain ⟨g, cap, cur, rfl, _, hg, hcap⟩ := own_shape hown1 (by omega)
  have hgl : g < w1.heap.size := (Array.getElem?_eq_some_iff.1 hg).1
  have HO := hid hown1
  have HB1 := hid hb1
  have hbz := hb1.size
  clear HC hown1 hg hb1
  go_wp2_with fail
  go_loopw [3, 5] (fun v i wr => ∃ k : Nat, k ≤ ls.length ∧ i = .int .i64 k ∧ wr.ownsRow w1.heap.size 9 1 v (full (ls.take k)).length (strs (full (ls.take k))) ∧ Below w1.heap.size w1 wr) (fun _ i _ => ls.length - (intOf i).toNat)
  case atStart => exact ⟨0, Nat.zero_le _, rfl, World.ownsRow_nil _ _ _ _, Below.refl _ _⟩
  case round =>
    obtain ⟨k, hk, rfl, hown, hbel⟩ := hrel
    have hsize := hbel.size
    by_cases hlt : k < ls.length
    · have hcell : wr.cell? ⟨g, k, none⟩ = some (.string ⟨(ls[k]).toArray⟩) := by
        rw [hbel.cell (by exact hgl), HO.out.cellAt k (by omega)]; simp [strs, hlt]
      have HF2 : Hid (full (ls.take (k + 1)) = full (ls.take k) ++ (if ls[k] = [] then [] else [ls[k]])) := full_snoc hlt
      have hle := full_le ls k
      generalize ls[k] = x at *
      cases x with
      | nil =>
        go_wp2
        go_roundw
        case rel => exact ⟨k + 1, by omega, by go_num, by rw [HF2.out]; simpa using hown, hbel⟩
        case measure => simp [intOf]; omega
      | cons a t =>
        go_wp2_with (first
          | (at_builtin; refine wpList_append_own _ rfl _ _ 148 rfl w1.heap.size 9 i0 (.string ByteArray.empty) 1 16 Tryz.underlying148 hi hz0 hz1 hz2 rfl (by decide) _ _ _ rfl (hown.alloc _) ⟨wr.heap.size, 0, none⟩ 1 1 [.string ⟨(a :: t).toArray⟩] rfl rfl ?c1 ?c2 ?c3 ?c4 ?c5 ?_)
          | go_in)
        case c1 => exact cell_one_new _ _ _
        case c2 => intro u hu; simp at hu; subst hu; rfl
        case c3 => unfold maxLen; omega
        case c4 => omega
        case c5 => simp; omega
        · intro v' w2 hown' hgrow _
          have R := own_str (w := w1) hsize hown hbel hown' hgrow
          clear hown' hgrow hown hbel
          go_wp2
          go_roundw
          case rel => exact ⟨k + 1, by omega, by go_num, by rw [HF2.out]; simpa using R.1, R.2⟩
          case measure => simp [intOf]; omega
    · go_wp2
      go_ret
      refine ⟨_, rfl, ?_, HB1.out.trans (hbel.mono hbz)⟩
      rw [HF.out]
      have := own_base hown hbz
      rw [List.take_of_length_le (by omega)] at this
      exact this

/- a text of digits; its value -/
theorem ne_void (s : ByteArray) : (!s.toList.isEmpty) = decide (1 ≤ s.size) := by
  rw [← decide_eq_emptyBytes]
  by_cases h : s = ByteArray.empty
  · subst h; rfl
  · have : 1 ≤ s.size := by
      rcases Nat.eq_zero_or_pos s.size with h0 | h0
      · exact absurd (ByteArray.size_eq_zero_iff.1 h0) h
      · exact h0
    simp [h, this]
set_option maxHeartbeats 400000 in
theorem rdigits_any (s : ByteArray) (w : World) (hs : s.size ≤ maxLen) :
    Calls Tryz.prog 154 #[.string s] w fun e w' => e = .returned (.bool (digs s.data.toList && decide (1 ≤ s.size))) ∧ w' = w := by
  unfold maxLen at hs
  go_enter Tryz.func154, Tryz.ntmps154
  go_wp2
  go_loop [3] (fun i => ∃ k : Nat, k ≤ s.size ∧ i = .int .i64 k ∧ Hid (digs (s.data.toList.take k) = true)) (fun i => s.size - (intOf i).toNat)
  case atStart => exact ⟨0, Nat.zero_le _, rfl, rfl⟩
  case round =>
    obtain ⟨k, hk, rfl, HD⟩ := hrel
    by_cases hlt : k < s.size
    · have HT := take_snoc s k hlt
      have HD' : Hid (digs (s.data.toList.take (k + 1)) = (digs (s.data.toList.take k) && (decide (48 ≤ (s[k].toNat : Int)) && decide ((s[k].toNat : Int) ≤ 57)))) := by rw [HT]; exact digs_snoc _ _
      clear HT
      by_cases hd : 48 ≤ (s[k].toNat : Int) ∧ (s[k].toNat : Int) ≤ 57
      · obtain ⟨hd1, hd2⟩ := hd
        go_wp2
        go_round
        case rel => exact ⟨k + 1, by omega, by go_num, by show _ = true; rw [HD'.out, HD.out]; simp [hd1, hd2]⟩
        case measure => simp [intOf]; omega
      · have hno : digs s.data.toList = false := digs_take _ (k + 1) (by rw [HD'.out]; simp; intro _ _; omega)
        go_wp2
        all_goals
          go_ret
          exact ⟨ret_bool (by first | rfl | (rw [hno]; rfl)), rfl⟩
    · have hyes : digs s.data.toList = true := by have := HD.out; rw [take_all s k (by omega)] at this; exact this
      have HY := hid hyes
      clear hyes
      go_wp2
      go_ret
      exact ⟨ret_bool (by rw [HY.out, Bool.true_and]; exact ne_void s), by trivial⟩

set_option maxHeartbeats 400000 in
theorem rvalue_any (s : ByteArray) (w : World) (hs : s.size ≤ 5) (hd : digs s.data.toList = true) :
    Calls Tryz.prog 202 #[.string s] w fun e w' => e = .returned (.int .i64 (val s.data.toList)) ∧ w' = w := by
  have HDS := hid hd
  clear hd
  go_enter Tryz.func202, Tryz.ntmps202
  go_wp2
  go_loop [3, 4] (fun n i => ∃ k : Nat, k ≤ s.size ∧ i = .int .i64 k ∧ n = .int .i64 (val (s.data.toList.take k))) (fun _ i => s.size - (intOf i).toNat)
  case atStart => exact ⟨0, Nat.zero_le _, rfl, rfl⟩
  case round =>
    obtain ⟨k, hk, rfl, rfl⟩ := hrel
    by_cases hlt : k < s.size
    · have HT := take_snoc s k hlt
      have hdk : digs (s.data.toList.take k) = true := by
        have h := HDS.out
        rw [← List.take_append_drop k s.data.toList] at h
        unfold digs at h ⊢
        rw [List.all_append, Bool.and_eq_true] at h
        exact h.1
      have hdk1 : digs (s.data.toList.take (k + 1)) = true := by
        have h := HDS.out
        rw [← List.take_append_drop (k + 1) s.data.toList] at h
        unfold digs at h ⊢
        rw [List.all_append, Bool.and_eq_true] at h
        exact h.1
      have hv := val_le _ hdk (by simp; omega)
      have hdd := hdk1
      rw [HT, digs_snoc, Bool.and_eq_true, Bool.and_eq_true, decide_eq_true_eq, decide_eq_true_eq] at hdd
      have HS : Hid (val (s.data.toList.take (k + 1)) = 10 * val (s.data.toList.take k) + (s[k].toNat - 48)) := by show _ = _; rw [HT]; exact val_snoc _ _
      have hc1 := hdd.2.1
      have hc2 := hdd.2.2
      clear HT hdd hdk hdk1
      go_wp2
      go_round
      case rel => exact ⟨k + 1, by omega, by go_num, by rw [HS.out]; go_num⟩
      case measure => simp [intOf]; omega
    · go_wp2
      go_ret
      exact ⟨ret_int (by rw [take_all s k (by omega)]), by trivial⟩
end Go.Proofs.YtebinaopncclgabGreatDoor
