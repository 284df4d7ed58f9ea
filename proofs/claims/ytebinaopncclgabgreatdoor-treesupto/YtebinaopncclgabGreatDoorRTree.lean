/- Walks of the document's answer: the numbers of a tree, written and read. -/
import Derived.Test.YtebinaopncclgabGreatDoorBase
import Derived.Test.YtebinaopncclgabGreatDoorPlainD
import Derived.Test.YtebinaopncclgabGreatDoorFrame
import Derived.Test.YtebinaopncclgabGreatDoorRefP
import Derived.Laws.BytesArg
import Derived.Test.YtebinaopncclgabGreatDoorRefC
import Derived.Test.YtebinaopncclgabGreatDoorTNum
namespace Go.Proofs.YtebinaopncclgabGreatDoor
open Go.RowKit Go.IntWalk

theorem retS {a b : ByteArray} (h : a = b) : Ending.returned (.string a) = .returned (.string b) := by rw [h]
theorem conv1 (W : World) (m : Nat) :
    (convert 144 9 (.slice (some ⟨W.heap.size, 0, none⟩) 1 1)).run Tryz.prog (W.alloc (.cells #[.int .u8 (48 + (m : Int) % 10)] 5)) = .ok (.string ⟨#[dg m]⟩) (W.alloc (.cells #[.int .u8 (48 + (m : Int) % 10)] 5)) := by
  have h := run_convert_bytes_arg (P := Tryz.prog) (W.alloc (.cells #[.int .u8 (48 + (m : Int) % 10)] 5)) 144 5 Tryz.underlying144 Tryz.underlying5 W.heap.size 0 1 1 [48 + (m : Int) % 10] rfl
    (by intro i hi; obtain rfl : i = 0 := by omega
        exact cell_of_row _ W.heap.size 0 _ _ (0, 0) (heap_alloc_new W _)) 9 Tryz.underlying9
  rw [h]
  have e : strOfNums [48 + (m : Int) % 10] = ⟨#[dg m]⟩ := by
    have : (48 + (m : Int) % 10).toNat = 48 + m % 10 := by omega
    simp only [strOfNums, List.map_cons, List.map_nil, this]; rfl
  rw [e]
theorem conv10 (W : World) :
    (convert 144 9 (.slice (some ⟨W.heap.size, 0, none⟩) 1 1)).run Tryz.prog (W.alloc (.cells #[.int .u8 10] 5)) = .ok (.string ⟨#[10]⟩) (W.alloc (.cells #[.int .u8 10] 5)) := by
  have h := run_convert_bytes_arg (P := Tryz.prog) (W.alloc (.cells #[.int .u8 10] 5)) 144 5 Tryz.underlying144 Tryz.underlying5 W.heap.size 0 1 1 [10] rfl
    (by intro i hi; obtain rfl : i = 0 := by omega
        exact cell_of_row _ W.heap.size 0 _ _ (0, 0) (heap_alloc_new W _)) 9 Tryz.underlying9
  rw [h]; rfl

set_option maxHeartbeats 1000000 in
theorem decimal_low (f n : Nat) (w : World) (hn : n ≤ 9) :
    Calls Tryz.prog 160 #[.int .i64 n] w fun e w' => e = .returned (.string ⟨(decF f n).toArray⟩) ∧ Below w.heap.size w w' := by
  have kc := fun W => conv1 W n
  go_enter Tryz.func160, Tryz.ntmps160
  go_wp2
  go_ret
  exact ⟨retS (by rw [decF_low hn]), below1 _ _⟩
end Go.Proofs.YtebinaopncclgabGreatDoor
namespace Go.Proofs.YtebinaopncclgabGreatDoor
open Go.RowKit Go.IntWalk

set_option maxHeartbeats 1000000 in
theorem decimal_big (f : Nat) : ∀ (n : Nat) (w : World), f ≤ 9 → n < 10 ^ (f + 1) → n ≤ 999999999 →
    Calls Tryz.prog 160 #[.int .i64 n] w fun e w' => e = .returned (.string ⟨(decF f n).toArray⟩) ∧ Below w.heap.size w w' := by
  induction f with
  | zero => intro n w _ h _; exact decimal_low 0 n w (by omega)
  | succ f ih =>
    intro n w hf h hn
    by_cases h9 : n ≤ 9
    · exact decimal_low (f + 1) n w h9
    · have kc := fun W => conv1 W n
      have IH : Hid (∀ W, Calls Tryz.prog 160 #[.int .i64 ((n / 10 : Nat) : Int)] W fun e w' => e = .returned (.string ⟨(decF f (n / 10)).toArray⟩) ∧ Below W.heap.size W w') := fun W => ih (n / 10) W (by omega) (by rw [Nat.pow_succ] at h; omega) (by omega)
      have HL := decF_length f (n / 10)
      have HF : Hid (decF (f + 1) n = decF f (n / 10) ++ [dg n]) := decF_step (by omega)
      clear ih h
      go_enter Tryz.func160, Tryz.ntmps160
      go_wp2_with fail
      refine (show Calls Tryz.prog 160 #[.int .i64 ((n : Int) / 10)] _ _ from IH.out _).mono ?_
      rintro e1 w1 ⟨rfl, hb1⟩
      have HB : Hid (Below w.heap.size w w1) := (below1 w _).trans (hb1.mono (by simp))
      clear hb1 IH kc
      go_wp2
      go_ret
      refine ⟨retS ?_, HB.out⟩
      rw [HF.out]; apply ByteArray.ext; simp [ByteArray.data_append]
set_option maxHeartbeats 1000000 in
theorem decimalT_any (z : Int) (w : World) (h1 : -999999999 ≤ z) (h2 : z ≤ 999999999) :
    Calls Tryz.prog 160 #[.int .i64 z] w fun e w' => e = .returned (.string ⟨(decT z).toArray⟩) ∧ Below w.heap.size w w' := by
  by_cases h0 : z < 0
  · obtain ⟨n, hn⟩ : ∃ n : Nat, -z = n := ⟨(-z).toNat, by omega⟩
    have IH : Hid (∀ W, Calls Tryz.prog 160 #[.int .i64 (-z)] W fun e w' => e = .returned (.string ⟨(decF 9 n).toArray⟩) ∧ Below W.heap.size W w') := fun W => by rw [hn]; exact decimal_big 9 n W (by omega) (by omega) (by omega)
    have HF : Hid (decT z = 45 :: decF 9 n) := by show _ = _; unfold decT; rw [if_pos h0]; congr 2; omega
    have HL := decF_length 9 n
    clear hn
    go_enter Tryz.func160, Tryz.ntmps160
    go_wp2_with fail
    refine (IH.out _).mono ?_
    rintro e1 w1 ⟨rfl, hb1⟩
    have HB := hid hb1
    clear hb1 IH
    go_wp2
    go_ret
    refine ⟨retS ?_, HB.out⟩
    rw [HF.out]; apply ByteArray.ext; simp [ByteArray.data_append]
  · obtain ⟨n, rfl⟩ := Int.eq_ofNat_of_zero_le (show 0 ≤ z by omega)
    have e : decT (n : Int) = decF 9 n := by unfold decT; rw [if_neg h0]; rfl
    rw [e]
    exact decimal_big 9 n w (by omega) (by omega) (by omega)

set_option maxHeartbeats 400000 in
theorem rvalue9 (s : ByteArray) (w : World) (hs : s.size ≤ 9) (hd : digs s.data.toList = true) :
    Calls Tryz.prog 202 #[.string s] w fun e w' => e = .returned (.int .i64 (val s.data.toList)) ∧ w' = w := by
  have HDS := hid hd
  clear hd
  go_enter Tryz.func202, Tryz.ntmps202
  go_wp2
  go_loop [3, 4] (fun n i => ∃ k : Nat, k ≤ s.size ∧ i = .int .i64 k ∧ n = .int .i64 (val (s.data.toList.take k))) (fun _ i => s.size - (intOf i).toNat)
  case atStart => exact ⟨0, Nat.zero_le _, rfl, rfl⟩
  case round =>
    obtain ⟨k, hk, rfl, rfl⟩ := hrel
    by_cases hlt : k < s.size
    · have HT := take_snoc s k hlt
      have hdk : digs (s.data.toList.take k) = true := by
        have h := HDS.out
        rw [← List.take_append_drop k s.data.toList] at h
        unfold digs at h ⊢
        rw [List.all_append, Bool.and_eq_true] at h
        exact h.1
      have hdk1 : digs (s.data.toList.take (k + 1)) = true := by
        have h := HDS.out
        rw [← List.take_append_drop (k + 1) s.data.toList] at h
        unfold digs at h ⊢
        rw [List.all_append, Bool.and_eq_true] at h
        exact h.1
      have hv := val_nine hdk (by simp; omega)
      have hdd := hdk1
      rw [HT, digs_snoc, Bool.and_eq_true, Bool.and_eq_true, decide_eq_true_eq, decide_eq_true_eq] at hdd
      have HS : Hid (val (s.data.toList.take (k + 1)) = 10 * val (s.data.toList.take k) + (s[k].toNat - 48)) := by show _ = _; rw [HT]; exact val_snoc _ _
      have hc1 := hdd.2.1
      have hc2 := hdd.2.2
      clear HT hdd hdk hdk1
      go_wp2
      go_round
      case rel => exact ⟨k + 1, by omega, by go_num, by rw [HS.out]; go_num⟩
      case measure => simp [intOf]; omega
    · go_wp2
      go_ret
      exact ⟨ret_int (by rw [take_all s k (by omega)]), by trivial⟩

/- the digits of a word, the sign taken off -/
def bareT (l : List UInt8) : List UInt8 := if 1 < l.length ∧ l.getD 0 0 = 45 then l.drop 1 else l
def signT (l : List UInt8) : Int := if 1 < l.length ∧ l.getD 0 0 = 45 then -(val (bareT l) : Int) else (val (bareT l) : Int)
theorem numT_bare {l : List UInt8} {z : Int} (h : numT l = some z) : digs (bareT l) = true ∧ bareT l ≠ [] ∧ (bareT l).length ≤ 9 ∧ signT l = z := by
  cases l with
  | nil => cases h
  | cons c t =>
    rw [numT_cons] at h
    by_cases hc : c = 45
    · subst hc
      rw [if_pos rfl] at h
      cases hn : natT t with
      | none => rw [hn] at h; cases h
      | some n =>
        rw [hn] at h
        dsimp only at h
        split at h
        · cases h
        · cases h
          have hn' := hn
          unfold natT at hn'
          split at hn'
          · rename_i hh
            cases hn'
            have hl : 1 < (45 :: t).length := by
              cases t with
              | nil => exact absurd rfl hh.1
              | cons => simp
            have hcond : 1 < (45 :: t).length ∧ (45 :: t).getD 0 0 = 45 := ⟨hl, rfl⟩
            have e1 : bareT (45 :: t) = t := by unfold bareT; rw [if_pos hcond]; rfl
            refine ⟨by rw [e1]; exact hh.2.1, by rw [e1]; exact hh.1, by rw [e1]; exact hh.2.2.1, ?_⟩
            unfold signT; rw [if_pos hcond, e1]
          · cases hn'
    · rw [if_neg hc] at h
      cases hn : natT (c :: t) with
      | none => rw [hn] at h; cases h
      | some n =>
        rw [hn] at h
        cases h
        unfold natT at hn
        split at hn
        · rename_i hh
          cases hn
          have hcond : ¬ (1 < (c :: t).length ∧ (c :: t).getD 0 0 = 45) := fun e => hc e.2
          have e1 : bareT (c :: t) = c :: t := by unfold bareT; rw [if_neg hcond]
          refine ⟨by rw [e1]; exact hh.2.1, by rw [e1]; exact hh.1, by rw [e1]; exact hh.2.2.1, ?_⟩
          unfold signT; rw [if_neg hcond, e1]
        · cases hn
theorem numT_sign {l : List UInt8} : (numT l = some (signT l) ↔ decT (signT l) = l ∧ -100000000 ≤ signT l ∧ signT l ≤ 100000000) :=
  ⟨fun h => by obtain ⟨h1, h2⟩ := numT_some h; exact ⟨h1.symm, h2⟩, fun ⟨h1, h2, h3⟩ => by have := numT_dec h2 h3; rw [h1] at this; exact this⟩
theorem numT_no {l : List UInt8} (h : numT l ≠ some (signT l)) : numT l = none := by
  cases hn : numT l with
  | none => rfl
  | some z => rw [(numT_bare hn).2.2.2] at h; exact absurd hn h
end Go.Proofs.YtebinaopncclgabGreatDoor
