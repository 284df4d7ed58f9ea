/- Walks: a text's lines, a line's fields. -/
import Derived.Test.YtebinaopncclgabGreatDoorBase
import Derived.Test.YtebinaopncclgabGreatDoorPlainB
namespace Go.Proofs.YtebinaopncclgabGreatDoor
open Go.RowKit Go.IntWalk

theorem Tryz.infoStr : (Tryz.prog.info? 9).map (fun i => (i.zero, i.size, i.bytes)) = some (some (.string ByteArray.empty), 1, 16) := by kernel_rfl

/- What a round that appends one string does. -/
theorem own_str {w wr w1 : World} {B : Nat} {v v' : Value} {ps : List (List UInt8)} {x : List UInt8} (hB : B ≤ wr.heap.size) (hown : wr.ownsRow B 9 1 v ps.length (strs ps)) (hbel : Below B w wr)
    {o : Obj} (hown' : w1.ownsRow B 9 1 v' (ps.length + 1) (strs ps ++ [.string ⟨x.toArray⟩])) (hgrow : (wr.alloc o).grownBy w1 v.ownBlock) :
    w1.ownsRow B 9 1 v' (ps ++ [x]).length (strs (ps ++ [x])) ∧ Below B w w1 := by
  refine ⟨by rw [strs_append, List.length_append]; exact hown', ?_⟩
  exact (hbel.alloc hB o).grown hgrow (by simp; omega) (fun k hk => (hown.lt k hk).1)

set_option maxHeartbeats 800000 in
theorem lines_any (s : ByteArray) (w : World) (hs : s.size ≤ 1000000) :
    Calls Tryz.prog 79 #[.string s] w fun e w' => ∃ v, e = .returned v ∧ w'.ownsRow w.heap.size 9 1 v (splitB 10 s.data.toList).length (strs (splitB 10 s.data.toList)) ∧ Below w.heap.size w w' := by
  obtain ⟨i0, hi, hz0, hz1, hz2⟩ := info_parts Tryz.infoStr
  obtain ⟨l, hl⟩ : ∃ l, l = s.data.toList := ⟨_, rfl⟩
  have hsz : s.size = l.length := by rw [hl]; simp
  have HL : Hid (l = s.data.toList) := hl
  have HSZ : Hid (s.size = l.length) := hsz
  have hs1 : s.size ≤ l.length := by omega
  have hs2 : l.length ≤ s.size := by omega
  clear hl hsz
  go_enter Tryz.func79, Tryz.ntmps79
  go_wp2
  go_loopw [3, 4, 5] (fun v bg i wr => ∃ k b : Nat, k ≤ s.size ∧ b ≤ k ∧ i = .int .i64 k ∧ bg = .int .i64 b ∧ Hid (lnC l k = (l.drop b).take (k - b)) ∧ (lnP l k).length ≤ k ∧ wr.ownsRow w.heap.size 9 1 v (lnP l k).length (strs (lnP l k)) ∧ Below w.heap.size w wr) (fun _ _ i _ => s.size - (intOf i).toNat)
  case atStart => exact ⟨0, 0, Nat.zero_le _, Nat.le_refl _, rfl, rfl, rfl, Nat.le_refl _, World.ownsRow_nil _ _ _ _, Below.refl _ _⟩
  case round =>
    obtain ⟨k, b, hk, hb, rfl, rfl, HC, hlen, hown, hbel⟩ := hrel
    have hsize := hbel.size
    by_cases hlt : k < s.size
    · have hll : k < l.length := by omega
      have HX : Hid (s[k] = l[k]) := by show s[k] = l[k]; subst HL; rfl
      by_cases hc : l[k] = 10
      · have hcb : ((s[k].toNat : Int) == 10) = true := by rw [HX.out, hc]; rfl
        clear hs1 hs2
        go_wp2_with (first
          | (at_builtin; refine wpList_append_own _ rfl _ _ 148 rfl w.heap.size 9 i0 (.string ByteArray.empty) 1 16 Tryz.underlying148 hi hz0 hz1 hz2 rfl (by decide) _ _ _ rfl (hown.alloc _) ⟨wr.heap.size, 0, none⟩ 1 1 [.string (s.extract b k)] rfl rfl ?c1 ?c2 ?c3 ?c4 ?c5 ?_)
          | go_in)
        case c1 => exact cell_one_new _ _ _
        case c2 => intro u hu; simp at hu; subst hu; rfl
        case c3 => unfold maxLen; omega
        case c4 => omega
        case c5 => simp; omega
        · intro v' w1 hown' hgrow _
          rw [str_cut] at hown'
          have R := own_str hsize hown hbel hown' hgrow
          clear hown' hgrow hown hbel
          go_wp2
          go_roundw
          case rel =>
            obtain ⟨e1, e2⟩ := ln_hit hll hc
            refine ⟨k + 1, k + 1, by omega, Nat.le_refl _, by go_num, by go_num, ?_, ?_, ?_, R.2⟩
            · show _ = _; rw [e2]; simp
            · rw [e1]; simp; omega
            · rw [e1, HC.out]; subst HL; exact R.1
          case measure => simp [intOf]; omega
      · have hcb : ((s[k].toNat : Int) == 10) = false := by
          rw [beq_eq_false_iff_ne]; intro e; exact hc (by rw [← HX.out]; exact UInt8.toNat_inj.1 (by have h10 : (10 : UInt8).toNat = 10 := rfl; omega))
        go_wp2
        go_roundw
        case rel =>
          obtain ⟨e1, e2⟩ := ln_miss hll hc
          refine ⟨k + 1, b, by omega, by omega, by go_num, rfl, ?_, ?_, ?_, hbel⟩
          · show _ = _; rw [e2, HC.out]; exact cut_snoc hb hll
          · rw [e1]; omega
          · rw [e1]; exact hown
        case measure => simp [intOf]; omega
    · have hke : k = s.size := by omega
      subst hke
      go_wp2_with (first
          | (at_builtin; refine wpList_append_own _ rfl _ _ 148 rfl w.heap.size 9 i0 (.string ByteArray.empty) 1 16 Tryz.underlying148 hi hz0 hz1 hz2 rfl (by decide) _ _ _ rfl (hown.alloc _) ⟨wr.heap.size, 0, none⟩ 1 1 [.string (s.extract b s.size)] rfl rfl ?d1 ?d2 ?d3 ?d4 ?d5 ?_)
          | go_in)
      case d1 => exact cell_one_new _ _ _
      case d2 => intro u hu; simp at hu; subst hu; rfl
      case d3 => unfold maxLen; omega
      case d4 => omega
      case d5 => simp; omega
      · intro v' w1 hown' hgrow _
        rw [str_cut] at hown'
        have R := own_str hsize hown hbel hown' hgrow
        clear hown' hgrow hown hbel
        go_wp2
        go_ret
        refine ⟨v', rfl, ?_, R.2⟩
        have e1 := ln_end (l := l) (k := s.size) (by omega)
        rw [HC.out] at e1
        subst HL
        rw [e1]; exact R.1

set_option maxHeartbeats 1000000 in
theorem fields_any (s : ByteArray) (w : World) (hs : s.size ≤ 1000000) :
    Calls Tryz.prog 131 #[.string s] w fun e w' => ∃ v, e = .returned v ∧ w'.ownsRow w.heap.size 9 1 v (flds s.data.toList).length (strs (flds s.data.toList)) ∧ Below w.heap.size w w' := by
  obtain ⟨i0, hi, hz0, hz1, hz2⟩ := info_parts Tryz.infoStr
  obtain ⟨l, hl⟩ : ∃ l, l = s.data.toList := ⟨_, rfl⟩
  have hsz : s.size = l.length := by rw [hl]; simp
  have HL : Hid (l = s.data.toList) := hl
  have hs1 : s.size ≤ l.length := by omega
  have hs2 : l.length ≤ s.size := by omega
  clear hl hsz
  go_enter Tryz.func131, Tryz.ntmps131
  go_wp2
  go_loopw [3, 4, 5] (fun v bg i wr => ∃ k b : Nat, k ≤ s.size ∧ b ≤ k ∧ i = .int .i64 k ∧ bg = .int .i64 b ∧ Hid (fdC l k = (l.drop b).take (k - b)) ∧ (fdP l k).length ≤ k ∧ wr.ownsRow w.heap.size 9 1 v (fdP l k).length (strs (fdP l k)) ∧ Below w.heap.size w wr) (fun _ _ i _ => s.size - (intOf i).toNat)
  case atStart => exact ⟨0, 0, Nat.zero_le _, Nat.le_refl _, rfl, rfl, rfl, Nat.le_refl _, World.ownsRow_nil _ _ _ _, Below.refl _ _⟩
  case round =>
    obtain ⟨k, b, hk, hb, rfl, rfl, HC, hlen, hown, hbel⟩ := hrel
    have hsize := hbel.size
    by_cases hlt : k < s.size
    · have hll : k < l.length := by omega
      have HX : Hid (s[k] = l[k]) := by show s[k] = l[k]; subst HL; rfl
      by_cases hc : l[k] = 32
      · have hcb : ((s[k].toNat : Int) != 32) = false := by rw [HX.out, hc]; rfl
        by_cases hbk : b < k
        · clear hs1 hs2
          go_wp2_with (first
            | (at_builtin; refine wpList_append_own _ rfl _ _ 148 rfl w.heap.size 9 i0 (.string ByteArray.empty) 1 16 Tryz.underlying148 hi hz0 hz1 hz2 rfl (by decide) _ _ _ rfl (hown.alloc _) ⟨wr.heap.size, 0, none⟩ 1 1 [.string (s.extract b k)] rfl rfl ?c1 ?c2 ?c3 ?c4 ?c5 ?_)
            | go_in)
          case c1 => exact cell_one_new _ _ _
          case c2 => intro u hu; simp at hu; subst hu; rfl
          case c3 => unfold maxLen; omega
          case c4 => omega
          case c5 => simp; omega
          · intro v' w1 hown' hgrow _
            rw [str_cut] at hown'
            have R := own_str hsize hown hbel hown' hgrow
            clear hown' hgrow hown hbel
            go_wp2
            go_roundw
            case rel =>
              obtain ⟨e1, e2⟩ := fd_hit hll hc (by rw [HC.out]; exact cut_ne hbk (by omega))
              refine ⟨k + 1, k + 1, by omega, Nat.le_refl _, by go_num, by go_num, ?_, ?_, ?_, R.2⟩
              · show _ = _; rw [e2]; simp
              · rw [e1]; simp; omega
              · rw [e1, HC.out]; subst HL; exact R.1
            case measure => simp [intOf]; omega
        · go_wp2
          go_roundw
          case rel =>
            obtain ⟨e1, e2⟩ := fd_void hll hc (by rw [HC.out, show k - b = 0 by omega]; simp)
            refine ⟨k + 1, k + 1, by omega, Nat.le_refl _, by go_num, by go_num, ?_, ?_, ?_, hbel⟩
            · show _ = _; rw [e2]; simp
            · rw [e1]; omega
            · rw [e1]; exact hown
          case measure => simp [intOf]; omega
      · have hcb : ((s[k].toNat : Int) != 32) = true := by
          rw [bne_iff_ne]; intro e; exact hc (by rw [← HX.out]; exact UInt8.toNat_inj.1 (by have h10 : (32 : UInt8).toNat = 32 := rfl; omega))
        go_wp2
        go_roundw
        case rel =>
          obtain ⟨e1, e2⟩ := fd_miss hll hc
          refine ⟨k + 1, b, by omega, by omega, by go_num, rfl, ?_, ?_, ?_, hbel⟩
          · show _ = _; rw [e2, HC.out]; exact cut_snoc hb hll
          · rw [e1]; omega
          · rw [e1]; exact hown
        case measure => simp [intOf]; omega
    · have hke : k = s.size := by omega
      subst hke
      by_cases hbk : b < s.size
      · go_wp2_with (first
          | (at_builtin; refine wpList_append_own _ rfl _ _ 148 rfl w.heap.size 9 i0 (.string ByteArray.empty) 1 16 Tryz.underlying148 hi hz0 hz1 hz2 rfl (by decide) _ _ _ rfl (hown.alloc _) ⟨wr.heap.size, 0, none⟩ 1 1 [.string (s.extract b s.size)] rfl rfl ?d1 ?d2 ?d3 ?d4 ?d5 ?_)
          | go_in)
        case d1 => exact cell_one_new _ _ _
        case d2 => intro u hu; simp at hu; subst hu; rfl
        case d3 => unfold maxLen; omega
        case d4 => omega
        case d5 => simp; omega
        · intro v' w1 hown' hgrow _
          rw [str_cut] at hown'
          have R := own_str hsize hown hbel hown' hgrow
          clear hown' hgrow hown hbel
          go_wp2
          go_ret
          refine ⟨v', rfl, ?_, R.2⟩
          have e1 := fd_end (l := l) (k := s.size) (by omega)
          rw [HC.out, if_neg (cut_ne hbk (by omega))] at e1
          subst HL
          rw [e1]; exact R.1
      · go_wp2
        go_ret
        refine ⟨_, rfl, ?_, hbel⟩
        have e1 := fd_end (l := l) (k := s.size) (by omega)
        rw [HC.out, show s.size - b = 0 by omega] at e1
        subst HL
        rw [e1]; simpa using hown
end Go.Proofs.YtebinaopncclgabGreatDoor
