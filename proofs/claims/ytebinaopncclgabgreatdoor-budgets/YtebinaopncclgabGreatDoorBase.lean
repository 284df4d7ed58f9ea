/- Small walks: numbers that are bent, numbers of a text. -/
import Derived.Test.YtebinaopncclgabGreatDoorRows
import Derived.Test.YtebinaopncclgabGreatDoorPlain
import Derived.WalkKit
import Derived.WalkSpells
import Derived.WalkLawsBesides
import Derived.StillTactics
import Derived.Deep.QuietTactic
import Derived.BigQuiet
import Derived.Outline
namespace Go.Proofs.YtebinaopncclgabGreatDoor
open Go.RowKit Go.IntWalk

theorem ret_int {k : IntKind} {a b : Int} (h : a = b) : Ending.returned (.int k a) = .returned (.int k b) := by rw [h]
theorem ret_bool {a b : Bool} (h : a = b) : Ending.returned (.bool a) = .returned (.bool b) := by rw [h]
theorem ret_ib {k : IntKind} {a b : Int} {c d : Bool} (h : a = b) (h' : c = d) : Ending.returned (.tuple #[.int k a, .bool c]) = .returned (.tuple #[.int k b, .bool d]) := by rw [h, h']

set_option maxHeartbeats 400000 in
theorem bent_any (n lo hi : Int) (w : World) (hn1 : -9223372036854775808 ≤ n) (hn2 : n ≤ 9223372036854775807) (hlo : -1 ≤ lo) (hh : lo ≤ hi) (hhi : hi ≤ 200000) :
    Calls Tryz.prog 17 #[.int .i64 n, .int .i64 lo, .int .i64 hi] w fun e w' => e = .returned (.int .i64 (bentS n lo hi)) ∧ w' = w := by
  have hm : ∀ x : Int, 0 ≤ x % (hi - lo + 1) ∧ x % (hi - lo + 1) < hi - lo + 1 := fun x => ⟨Int.emod_nonneg x (by omega), Int.emod_lt_of_pos x (by omega)⟩
  have HM : Hid (∀ x : Int, 0 ≤ x % (hi - lo + 1) ∧ x % (hi - lo + 1) < hi - lo + 1) := hm
  clear hm
  go_enter Tryz.func17, Tryz.ntmps17
  go_wp2
  · go_ret
    exact ⟨ret_int (by unfold bentS; rw [if_pos (by omega)]), rfl⟩
  · go_ret
    exact ⟨ret_int (by unfold bentS; rw [if_neg (by omega), if_neg (by omega)]; exact wrap64_in _ (by have := HM.out n; omega)), rfl⟩
  · go_ret
    refine ⟨ret_int ?_, rfl⟩
    unfold bentS; rw [if_neg (by omega), if_pos (by omega)]
    rw [show (-(n + 1).tmod (hi - lo + 1)) = (-(n + 1)) % (hi - lo + 1) from by rw [← Int.neg_tmod]; exact Int.tmod_eq_emod_of_nonneg (by omega)]
    exact wrap64_in _ (by have := HM.out (-(n + 1)); omega)
  · go_ret
    exact ⟨ret_int (by unfold bentS; rw [if_neg (by omega), if_neg (by omega)]; exact wrap64_in _ (by have := HM.out n; omega)), rfl⟩

set_option maxHeartbeats 400000 in
theorem number_any (s : ByteArray) (w : World) (hs : s.size ≤ maxLen) :
    Calls Tryz.prog 192 #[.string s] w fun e w' => e = .returned (.tuple #[.int .i64 (numV s.data.toList), .bool (numOk s.data.toList)]) ∧ w' = w := by
  unfold maxLen at hs
  by_cases hl : 1 ≤ s.size ∧ s.size ≤ 5
  · obtain ⟨hl1, hl2⟩ := hl
    go_enter Tryz.func192, Tryz.ntmps192
    go_wp2
    go_loop [4, 5] (fun v i => ∃ k : Nat, k ≤ s.size ∧ i = .int .i64 k ∧ v = .int .i64 (val (s.data.toList.take k)) ∧ Hid (digs (s.data.toList.take k) = true)) (fun _ i => s.size - (intOf i).toNat)
    case atStart => exact ⟨0, Nat.zero_le _, rfl, rfl, rfl⟩
    case round =>
      obtain ⟨k, hk, rfl, rfl, HD⟩ := hrel
      have hv := val_le (s.data.toList.take k) HD.out (by simp; omega)
      by_cases hlt : k < s.size
      · have HT := take_snoc s k hlt
        have HS : Hid (val (s.data.toList.take (k + 1)) = 10 * val (s.data.toList.take k) + (s[k].toNat - 48)) := by rw [HT]; exact val_snoc _ _
        have HD' : Hid (digs (s.data.toList.take (k + 1)) = (digs (s.data.toList.take k) && (decide (48 ≤ (s[k].toNat : Int)) && decide ((s[k].toNat : Int) ≤ 57)))) := by rw [HT]; exact digs_snoc _ _
        clear HT
        by_cases hd : 48 ≤ (s[k].toNat : Int) ∧ (s[k].toNat : Int) ≤ 57
        · obtain ⟨hd1, hd2⟩ := hd
          go_wp2
          go_round
          case rel => exact ⟨k + 1, by omega, by go_num, by rw [HS.out]; go_num, by show _ = true; rw [HD'.out, HD.out]; simp [hd1, hd2]⟩
          case measure => simp [intOf]; omega
        · have hno : numOk s.data.toList = false := numOk_digs (digs_take _ (k + 1) (by rw [HD'.out]; simp; intro _ _; omega))
          have hv0 := numV_no hno
          go_wp2
          all_goals
            go_ret2
            exact ⟨ret_ib (by first | rfl | exact hv0.symm) (by first | rfl | exact hno.symm), rfl⟩
      · go_wp2
        go_ret2
        have hok : numOk s.data.toList = true := numOk_of (by simpa using hl1) (by simpa using hl2) (by have := HD.out; rw [take_all s k (by omega)] at this; exact this)
        exact ⟨ret_ib (by rw [numV_yes hok, take_all s k (by omega)]) hok.symm, rfl⟩
  · have hno : numOk s.data.toList = false := numOk_len (by simpa using hl)
    have hv0 := numV_no hno
    by_cases h1 : s.size < 1
    · go_enter Tryz.func192, Tryz.ntmps192
      go_wp2
      go_ret2
      exact ⟨ret_ib (by first | rfl | exact hv0.symm) (by first | rfl | exact hno.symm), rfl⟩
    · have h5 : 5 < s.size := by omega
      go_enter Tryz.func192, Tryz.ntmps192
      go_wp2
      go_ret2
      exact ⟨ret_ib (by first | rfl | exact hv0.symm) (by first | rfl | exact hno.symm), rfl⟩

theorem take_all_fit {zs : List Int} {k : Nat} (hlt : k < zs.length) : (zs.take (k + 1)).all fit = ((zs.take k).all fit && fit zs[k]) := by
  rw [List.take_succ_eq_append_getElem hlt, List.all_append]; simp
theorem all_fit_no {zs : List Int} {k : Nat} (hlt : k < zs.length) (h : fit zs[k] = false) : zs.all fit = false := by
  rw [List.all_eq_false]; exact ⟨zs[k], List.getElem_mem hlt, by simp [h]⟩

set_option maxHeartbeats 400000 in
theorem allFit_any (b : Nat) (zs : List Int) (c : Nat) (w : World) (hs : zs.length ≤ 100) (hc : ∀ i, i < zs.length → w.cell? ⟨b, i, none⟩ = some (.int .i64 (zs.getD i 0))) :
    Calls Tryz.prog 193 #[.slice (some ⟨b, 0, none⟩) zs.length c] w fun e w' => e = .returned (.bool (zs.all fit)) ∧ w' = w := by
  go_enter Tryz.func193, Tryz.ntmps193
  go_wp2
  go_loop [3] (fun i => ∃ k : Nat, k ≤ zs.length ∧ i = .int .i64 k ∧ Hid ((zs.take k).all fit = true)) (fun i => zs.length - (intOf i).toNat)
  case atStart => exact ⟨0, Nat.zero_le _, rfl, rfl⟩
  case round =>
    obtain ⟨k, hk, rfl, HF⟩ := hrel
    by_cases hlt : k < zs.length
    · have hck := hc k hlt
      clear hc
      by_cases hz : 0 ≤ zs[k] ∧ zs[k] ≤ 10000
      · obtain ⟨hz1, hz2⟩ := hz
        go_wp2
        go_round
        case rel => exact ⟨k + 1, by omega, by go_num, by show _ = true; rw [take_all_fit hlt, HF.out, (fit_iff _).2 ⟨hz1, hz2⟩]; rfl⟩
        case measure => simp [intOf]; omega
      · have HN : Hid (zs.all fit = false) := all_fit_no hlt (by rw [Bool.eq_false_iff]; intro h; exact hz ((fit_iff _).1 h))
        go_wp2
        all_goals
          go_ret
          exact ⟨ret_bool HN.out.symm, rfl⟩
    · go_wp2
      go_ret
      exact ⟨ret_bool (by have := HF.out; rw [List.take_of_length_le (by omega)] at this; exact this.symm), rfl⟩

/- the same, at a list whose length is told apart -/
theorem allFit_n (b n : Nat) (zs : List Int) (c : Nat) (w : World) (hn : zs.length = n) (hs : n ≤ 100) (hc : ∀ i, i < n → w.cell? ⟨b, i, none⟩ = some (.int .i64 (zs.getD i 0))) :
    Calls Tryz.prog 193 #[.slice (some ⟨b, 0, none⟩) n c] w fun e w' => e = .returned (.bool (zs.all fit)) ∧ w' = w := by
  subst hn; exact allFit_any b zs c w hs hc

/- the numbers of a stop, a road, a head -/
def headOk (v l c n h : Int) : Bool := decide (1 ≤ v ∧ v ≤ 3 ∧ 1 ≤ n ∧ n ≤ 12 ∧ 0 ≤ h ∧ h < n) && (fit l && fit c)
def stopOk (a b c d e : Int) (nodes : Int) : Bool := decide (0 ≤ a ∧ a < nodes ∧ c ≤ d) && (fit b && (fit c && (fit d && fit e)))
def roadOk (a b c : Int) (nodes : Int) : Bool := decide (0 ≤ a ∧ a < nodes ∧ 0 ≤ b ∧ b < nodes) && fit c
theorem and_no {p : Prop} [Decidable p] {b : Bool} (h : ¬ p) : (decide p && b) = false := by simp [h]
theorem and_yes {p : Prop} [Decidable p] {b : Bool} (h : p) : (decide p && b) = b := by simp [h]
theorem headOk_no {v l c n h : Int} (p : ¬ (1 ≤ v ∧ v ≤ 3 ∧ 1 ≤ n ∧ n ≤ 12 ∧ 0 ≤ h ∧ h < n)) : headOk v l c n h = false := and_no p
theorem headOk_yes {v l c n h : Int} (p : 1 ≤ v ∧ v ≤ 3 ∧ 1 ≤ n ∧ n ≤ 12 ∧ 0 ≤ h ∧ h < n) : headOk v l c n h = (fit l && fit c) := and_yes p
theorem stopOk_no {a b c d e n : Int} (p : ¬ (0 ≤ a ∧ a < n ∧ c ≤ d)) : stopOk a b c d e n = false := and_no p
theorem stopOk_yes {a b c d e n : Int} (p : 0 ≤ a ∧ a < n ∧ c ≤ d) : stopOk a b c d e n = (fit b && (fit c && (fit d && fit e))) := and_yes p
theorem roadOk_no {a b c n : Int} (p : ¬ (0 ≤ a ∧ a < n ∧ 0 ≤ b ∧ b < n)) : roadOk a b c n = false := and_no p
theorem roadOk_yes {a b c n : Int} (p : 0 ≤ a ∧ a < n ∧ 0 ≤ b ∧ b < n) : roadOk a b c n = fit c := and_yes p
theorem below1 (w : World) (o : Obj) : Below w.heap.size w (w.alloc o) := (Below.refl _ _).alloc (Nat.le_refl _) _
theorem below2 (w : World) (o o' : Obj) : Below w.heap.size w ((w.alloc o).alloc o') := (below1 w o).alloc (by simp) _

theorem cells2 {f : Nat → Option Value} {a b : Int} (h0 : f 0 = some (.int .i64 a)) (h1 : f 1 = some (.int .i64 b)) : ∀ i, i < 2 → f i = some (.int .i64 ([a, b].getD i 0)) := by
  intro i hi
  match i, hi with
  | 0, _ => exact h0
  | 1, _ => exact h1
theorem cells1 {f : Nat → Option Value} {a : Int} (h0 : f 0 = some (.int .i64 a)) : ∀ i, i < 1 → f i = some (.int .i64 ([a].getD i 0)) := by
  intro i hi
  match i, hi with
  | 0, _ => exact h0
theorem cells4 {f : Nat → Option Value} {a b c d : Int} (h0 : f 0 = some (.int .i64 a)) (h1 : f 1 = some (.int .i64 b)) (h2 : f 2 = some (.int .i64 c)) (h3 : f 3 = some (.int .i64 d)) : ∀ i, i < 4 → f i = some (.int .i64 ([a, b, c, d].getD i 0)) := by
  intro i hi
  match i, hi with
  | 0, _ => exact h0
  | 1, _ => exact h1
  | 2, _ => exact h2
  | 3, _ => exact h3

end Go.Proofs.YtebinaopncclgabGreatDoor
