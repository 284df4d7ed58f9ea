/- Walks: a table begun. -/
import Derived.Test.YtebinaopncclgaaAGive
import Derived.Deep.AppendLies
namespace Go.Proofs.Ytebinaopncclgaa
open Go.RowKit Go.IntWalk

/- ten marks, in a block of their own -/
def BoolAt (w : World) (g : Nat) (S : Nat → Bool) : Prop := ∃ cs, w.heap[g]? = some (.cells cs 114 (0, 0)) ∧ ∀ i, i < 10 → cs[i]? = some (.bool (S i))
theorem BoolAt.lt {w : World} {g : Nat} {S : Nat → Bool} (h : BoolAt w g S) : g < w.heap.size := by obtain ⟨cs, hc, _⟩ := h; exact (Array.getElem?_eq_some_iff.1 hc).1
theorem BoolAt.cell {w : World} {g i : Nat} {S : Nat → Bool} (h : BoolAt w g S) (hi : i < 10) : w.cell? ⟨g, i, none⟩ = some (.bool (S i)) := by
  obtain ⟨cs, hc, hf⟩ := h
  rw [cell_of_row _ _ _ _ _ _ hc]; exact hf i hi
theorem BoolAt.frozen {w : World} {g : Nat} {S : Nat → Bool} (h : BoolAt w g S) (k : Nat) : w.frozen? ⟨g, k, none⟩ = false := by obtain ⟨cs, hc, _⟩ := h; exact frozen_of_row w g k _ _ hc
theorem BoolAt.block {w w' : World} {g : Nat} {S : Nat → Bool} (h : BoolAt w g S) (hb : w'.heap[g]? = w.heap[g]?) : BoolAt w' g S := by
  obtain ⟨cs, hc, h2⟩ := h; exact ⟨cs, hb.trans hc, h2⟩
theorem BoolAt.put {w : World} {g k : Nat} {S : Nat → Bool} (h : BoolAt w g S) (hk : k < 10) (x : Bool) : BoolAt (w.setCell ⟨g, k, none⟩ (.bool x)) g (up1 S k x) := by
  have h0 := h.cell hk
  obtain ⟨cs, hc, hf⟩ := id h
  have hb := heap_setCell_same w g k cs 114 (.bool x) hc
  refine ⟨_, hb, fun i hi => ?_⟩
  have h1 := net_cells hc h0 (.bool x) (h.cell hi)
  rw [cell_of_row _ _ _ _ _ _ hb] at h1
  rw [h1]
  unfold up1
  by_cases e : i = k
  · rw [if_pos e, if_pos e]
  · rw [if_neg e, if_neg e]
theorem bools_new (w : World) : BoolAt (w.alloc (.cells #[.bool false, .bool false, .bool false, .bool false, .bool false, .bool false, .bool false, .bool false, .bool false, .bool false] 114)) w.heap.size (fun _ => false) := by
  refine ⟨_, heap_alloc_new w _, fun i hi => ?_⟩
  match i, hi with
  | 0, _ => rfl
  | 1, _ => rfl
  | 2, _ => rfl
  | 3, _ => rfl
  | 4, _ => rfl
  | 5, _ => rfl
  | 6, _ => rfl
  | 7, _ => rfl
  | 8, _ => rfl
  | 9, _ => rfl

theorem bools_set (w : World) (r : Nat) (hr : r < 10) : BoolAt (w.alloc (.cells ((([.bool false, .bool false, .bool false, .bool false, .bool false, .bool false, .bool false, .bool false, .bool false, .bool false] : List Value)).set r (.bool true)).toArray 114)) w.heap.size (up1 (fun _ => false) r true) := by
  refine ⟨_, heap_alloc_new w _, fun i hi => ?_⟩
  have h0 : ∀ i, i < 10 → ([.bool false, .bool false, .bool false, .bool false, .bool false, .bool false, .bool false, .bool false, .bool false, .bool false] : List Value)[i]? = some (.bool false) := fun i hi => by
    match i, hi with
    | 0, _ => rfl
    | 1, _ => rfl
    | 2, _ => rfl
    | 3, _ => rfl
    | 4, _ => rfl
    | 5, _ => rfl
    | 6, _ => rfl
    | 7, _ => rfl
    | 8, _ => rfl
    | 9, _ => rfl
  rw [List.getElem?_toArray, List.getElem?_set]
  unfold up1
  by_cases e : r = i
  · rw [if_pos e, if_pos e.symm, if_pos (by simp; omega)]
  · rw [if_neg e, if_neg (fun h => e h.symm)]; exact h0 i hi

set_option maxRecDepth 100000 in
set_option maxHeartbeats 4000000 in
theorem shortRows_any (p q n root : Nat) (vc : Value) (u v ow far fr : Nat → Int) (dn : Nat → Bool) (w : World) (hn : n ≤ 10) (hr : root < n) (ho : ∀ c, c < n → dn c = true → ∃ i : Nat, ow c = i ∧ i < n) (ht : TabAt w p n vc u v ow) (hh : HuntAt w q root far fr dn) :
    Calls Try.prog 58 #[.pointer (some ⟨p, 0, none⟩), .pointer (some ⟨q, 0, none⟩)] w fun e w' => ∃ x, e = .returned x ∧ w'.ownsRow w.heap.size 3 1 x (((List.range n).filter (shS ow dn root n)).length) (ints (((List.range n).filter (shS ow dn root n)).map fun (i : Nat) => (i : Int))) ∧ Below w.heap.size w w' := by
  obtain ⟨i0, hi, hz0, hz1, hz2⟩ := info_parts Try.infoInt
  have HT := hid ht
  have HH := hid hh
  have HO := hid ho
  have h0 := hh.c0
  have hpw := ht.lt
  have hqw := hh.lt
  have ir : (0 : Int) ≤ (root : Int) := by omega
  have jr : (root : Int) < 10 := by omega
  have HB0 := hid (bools_new w)
  have z0 := (bools_new w).cell (i := root) (by omega)
  have z1 := (bools_new w).frozen root
  clear ht hh ho
  go_enter Try.func58, Try.ntmps58
  go_wp2_with go_in
  have HS1 : Hid (BoolAt (w.alloc (.cells ((([.bool false, .bool false, .bool false, .bool false, .bool false, .bool false, .bool false, .bool false, .bool false, .bool false] : List Value)).set root (.bool true)).toArray 114)) w.heap.size (shS ow dn root 0)) := bools_set w root (by omega)
  have HBL : Hid (Below w.heap.size w (w.alloc (.cells ((([.bool false, .bool false, .bool false, .bool false, .bool false, .bool false, .bool false, .bool false, .bool false, .bool false] : List Value)).set root (.bool true)).toArray 114))) := below1 w _
  obtain ⟨w1, hw1⟩ : ∃ w1, w1 = (w.alloc (.cells ((([.bool false, .bool false, .bool false, .bool false, .bool false, .bool false, .bool false, .bool false, .bool false, .bool false] : List Value)).set root (.bool true)).toArray 114)) := ⟨_, rfl⟩
  rw [← hw1] at HS1 HBL ⊢
  obtain ⟨SS, hSS⟩ : ∃ SS, SS = shS ow dn root := ⟨_, rfl⟩
  rw [← hSS] at HS1
  have HSS : Hid (∀ k, SS (k + 1) = if dn k = true then up1 (SS k) (ow k).toNat true else SS k) := fun k => by rw [hSS]; rfl
  have HSE := hid hSS
  clear hw1 z0 z1 HB0 h0 hSS
  go_loopw [6] (fun i wr => ∃ k : Nat, k ≤ n ∧ i = .int .i64 k ∧ Hid (BoolAt wr w.heap.size (SS k)) ∧ Hid (Below w.heap.size w wr)) (fun i _ => n - (intOf i).toNat)
  case atStart => exact ⟨0, Nat.zero_le _, rfl, HS1, HBL⟩
  case round =>
    clear HS1 HBL hpw hqw
    obtain ⟨k, hk, rfl, HS, HB⟩ := hrel
    have HT1 := hid (HT.out.below HB.out)
    have HH1 := hid (HH.out.below HB.out)
    have t0 := HT1.out.c0
    have hpw := HT1.out.lt
    have hqw := HH1.out.lt
    have hsw := HS.out.lt
    by_cases hlt : k < n
    · have d0 := HH1.out.cd k (by omega)
      have o0 := HT1.out.co k (by omega)
      have ik : (0 : Int) ≤ (k : Int) := by omega
      have jk : (k : Int) < 10 := by omega
      cases hdk : dn k
      · rw [hdk] at d0
        have HX : Hid (SS (k + 1) = SS k) := by show _ = _; rw [HSS.out, if_neg (by rw [hdk]; simp)]
        go_wp2_with go_in
        go_roundw
        case rel => exact ⟨k + 1, by omega, by go_num, by rw [HX.out]; first | exact HS | exact HS.out.block rfl, by first | exact HB | exact HB.out.drew⟩
        case measure => simp [intOf]; omega
      · rw [hdk] at d0
        obtain ⟨i, hi', hin⟩ := HO.out k hlt hdk
        have HX : Hid (SS (k + 1) = up1 (SS k) i true) := by show _ = _; rw [HSS.out, if_pos hdk, hi']; simp
        rw [hi'] at o0
        have s0 := HS.out.cell (i := i) (by omega)
        have s1 := HS.out.frozen i
        have ii : (0 : Int) ≤ (i : Int) := by omega
        have ji : (i : Int) < 10 := by omega
        clear hi'
        go_wp2_with go_in
        first | go_region | skip
        go_wp2
        go_roundw
        case rel => exact ⟨k + 1, by omega, by go_num, by rw [HX.out]; first | exact HS.out.put (by omega) true | exact (HS.out.put (by omega) true).block rfl, by first | exact HB.out.setCell (by exact Nat.le_refl _) _ | exact (HB.out.setCell (by exact Nat.le_refl _) _).drew⟩
        case measure => simp [intOf]; omega
    · have hke : k = n := by omega
      have HSN : Hid (BoolAt wr w.heap.size (SS n)) := by show BoolAt _ _ _; rw [← hke]; exact HS.out
      obtain ⟨F, hF⟩ : ∃ F : Nat → List Int, F = fun m => ((List.range m).filter (SS n)).map fun (i : Nat) => (i : Int) := ⟨_, rfl⟩
      have HF0 : Hid (F 0 = []) := by show _ = _; rw [hF]; rfl
      have HF1 : Hid (∀ m, SS n m = true → F (m + 1) = F m ++ [(m : Int)]) := fun m h => by rw [hF]; simp [List.range_succ, h]
      have HF2 : Hid (∀ m, SS n m = false → F (m + 1) = F m) := fun m h => by rw [hF]; simp [List.range_succ, h]
      have HFL : Hid (∀ m, (F m).length ≤ m) := fun m => by rw [hF]; have := List.length_filter_le (SS n) (List.range m); simp at this ⊢; exact this
      have HFE : Hid (ints (((List.range n).filter (shS ow dn root n)).map fun (i : Nat) => (i : Int)) = ints (F n) ∧ ((List.range n).filter (shS ow dn root n)).length = (F n).length) := by
        show _ ∧ _
        rw [hF, HSE.out]; simp
      obtain ⟨wa, hwa⟩ : ∃ wa, wa = wr := ⟨_, rfl⟩
      rw [← hwa] at HSN HB
      have hwaz := HB.out.size
      clear hF HS HT1 HH1 hlt hk
      go_wp2_with go_in
      rw [← hwa]
      clear hwa t0 hpw hqw hsw hke
      go_loopw [7, 8] (fun lv i wr => ∃ m : Nat, m ≤ n ∧ i = .int .i64 m ∧ Hid (wr.ownsRow wa.heap.size 3 1 lv (F m).length (ints (F m))) ∧ Hid (Below wa.heap.size wa wr)) (fun _ i _ => n - (intOf i).toNat)
      case atStart => exact ⟨0, Nat.zero_le _, rfl, by rw [HF0.out]; exact World.ownsRow_nil _ _ _ _, Below.refl _ _⟩
      case round =>
        have HBA := HB
        clear HB
        obtain ⟨m, hm, rfl, HL, HB⟩ := hrel
        have hbz := HB.out.size
        have hba : Below w.heap.size w wr := HBA.out.trans (HB.out.mono hwaz)
        have HT1 := hid (HT.out.below hba)
        have HS1 : Hid (BoolAt wr w.heap.size (SS n)) := HSN.out.block (HB.out.block _ HSN.out.lt)
        have t0 := HT1.out.c0
        have hpw := HT1.out.lt
        have hsw := HS1.out.lt
        have HBX := hid hba
        clear hba
        obtain ⟨al, cl, hlv, _, _⟩ := own_val HL.out
        subst hlv
        by_cases hlt : m < n
        · have s0 := HS1.out.cell (i := m) (by omega)
          have im : (0 : Int) ≤ (m : Int) := by omega
          have jm : (m : Int) < 10 := by omega
          have hfl := HFL.out m
          cases hsm : SS n m
          · rw [hsm] at s0
            have HX := hid (HF2.out m hsm)
            go_wp2_with go_in
            go_roundw
            case rel => exact ⟨m + 1, by omega, by go_num, by rw [HX.out]; first | exact HL | exact own_heap HL.out rfl, by first | exact HB | exact HB.out.drew⟩
            case measure => simp [intOf]; omega
          · rw [hsm] at s0
            have HX := hid (HF1.out m hsm)
            obtain ⟨fl, hflx⟩ : ∃ fl, fl = (F m).length := ⟨_, rfl⟩
            rw [← hflx] at HL hfl ⊢
            have HFX := hid hflx
            clear hflx
            go_wp2_with (first
              | (at_builtin; refine wpList_append_own _ rfl _ _ 37 rfl wa.heap.size 3 i0 (.int .i64 0) 1 8 Try.underlying37 hi hz0 hz1 hz2 rfl (by decide) _ _ _ rfl (HL.out.alloc _) ⟨wr.heap.size, 0, none⟩ 1 1 [.int .i64 m] rfl rfl ?c1 ?c2 ?c3 ?c4 ?c5 ?_)
              | go_in)
            case c1 => exact cell_one_new _ _ _
            case c2 => intro x hx; simp at hx; subst hx; rfl
            case c3 => unfold maxLen; omega
            case c4 => omega
            case c5 => simp; omega
            intro v' w2 hown' hgrow _
            have hgg : (wr.alloc (.cells #[.int .i64 m] 3)).grownBy w2 (Value.slice al fl cl).ownBlock := hgrow
            have HO2 : Hid (w2.ownsRow wa.heap.size 3 1 v' (F (m + 1)).length (ints (F (m + 1)))) := by
              show World.ownsRow _ _ _ _ _ _ _
              rw [HX.out, ints_append, List.length_append, ← HFX.out]; exact hown'
            have HB2 : Hid (Below wa.heap.size wa w2) := (HB.out.trans ((below1 wr _).mono hbz)).grown hgg (by simp; omega) (fun x hx => (HL.out.lt x hx).1)
            clear hown' hgrow hgg HL HB s0 t0
            go_wp2
            go_roundw
            case rel => exact ⟨m + 1, by omega, by go_num, HO2, HB2⟩
            case measure => simp [intOf]; omega
        · have hme : m = n := by omega
          have HLN : Hid (wr.ownsRow wa.heap.size 3 1 (.slice al (F m).length cl) (F n).length (ints (F n))) := by show World.ownsRow _ _ _ _ _ _ _; rw [← hme]; exact HL.out
          clear hme HL
          go_wp2_with go_in
          go_ret
          refine ⟨_, rfl, ?_, HBX.out⟩
          rw [HFE.out.1, HFE.out.2]
          exact own_base HLN.out hwaz
end Go.Proofs.Ytebinaopncclgaa
namespace Go.Proofs.Ytebinaopncclgaa
open Go.RowKit Go.IntWalk

theorem tab_new (w : World) (n : Nat) (vc : Value) : TabAt (w.alloc (.cells #[.int .i64 n, vc, .int .i64 0, .int .i64 0, .int .i64 0, .int .i64 0, .int .i64 0, .int .i64 0, .int .i64 0, .int .i64 0, .int .i64 0, .int .i64 0, .int .i64 0, .int .i64 0, .int .i64 0, .int .i64 0, .int .i64 0, .int .i64 0, .int .i64 0, .int .i64 0, .int .i64 0, .int .i64 0, .int .i64 0, .int .i64 0, .int .i64 0, .int .i64 0, .int .i64 0, .int .i64 0, .int .i64 0, .int .i64 0, .int .i64 0, .int .i64 0] 112)) w.heap.size n vc (fun _ => 0) (fun _ => 0) (fun _ => 0) := by
  have hb := heap_alloc_new w (.cells #[.int .i64 n, vc, .int .i64 0, .int .i64 0, .int .i64 0, .int .i64 0, .int .i64 0, .int .i64 0, .int .i64 0, .int .i64 0, .int .i64 0, .int .i64 0, .int .i64 0, .int .i64 0, .int .i64 0, .int .i64 0, .int .i64 0, .int .i64 0, .int .i64 0, .int .i64 0, .int .i64 0, .int .i64 0, .int .i64 0, .int .i64 0, .int .i64 0, .int .i64 0, .int .i64 0, .int .i64 0, .int .i64 0, .int .i64 0, .int .i64 0, .int .i64 0] 112)
  refine ⟨⟨_, hb⟩, ?_, ?_, fun i hi => ?_, fun i hi => ?_, fun i hi => ?_⟩
  · rw [cell_of_row _ _ _ _ _ _ hb]; rfl
  · rw [cell_of_row _ _ _ _ _ _ hb]; rfl
  · rw [cell_of_row _ _ _ _ _ _ hb]
    match i, hi with
    | 0, _ => rfl
    | 1, _ => rfl
    | 2, _ => rfl
    | 3, _ => rfl
    | 4, _ => rfl
    | 5, _ => rfl
    | 6, _ => rfl
    | 7, _ => rfl
    | 8, _ => rfl
    | 9, _ => rfl
  · rw [cell_of_row _ _ _ _ _ _ hb]
    match i, hi with
    | 0, _ => rfl
    | 1, _ => rfl
    | 2, _ => rfl
    | 3, _ => rfl
    | 4, _ => rfl
    | 5, _ => rfl
    | 6, _ => rfl
    | 7, _ => rfl
    | 8, _ => rfl
    | 9, _ => rfl
  · rw [cell_of_row _ _ _ _ _ _ hb]
    match i, hi with
    | 0, _ => rfl
    | 1, _ => rfl
    | 2, _ => rfl
    | 3, _ => rfl
    | 4, _ => rfl
    | 5, _ => rfl
    | 6, _ => rfl
    | 7, _ => rfl
    | 8, _ => rfl
    | 9, _ => rfl
theorem hunt_new (w : World) (root : Nat) : HuntAt (w.alloc (.cells #[.int .i64 root, .int .i64 0, .int .i64 0, .int .i64 0, .int .i64 0, .int .i64 0, .int .i64 0, .int .i64 0, .int .i64 0, .int .i64 0, .int .i64 0, .int .i64 0, .int .i64 0, .int .i64 0, .int .i64 0, .int .i64 0, .int .i64 0, .int .i64 0, .int .i64 0, .int .i64 0, .int .i64 0, .bool false, .bool false, .bool false, .bool false, .bool false, .bool false, .bool false, .bool false, .bool false, .bool false] 116)) w.heap.size root (fun _ => 0) (fun _ => 0) (fun _ => false) := by
  have hb := heap_alloc_new w (.cells #[.int .i64 root, .int .i64 0, .int .i64 0, .int .i64 0, .int .i64 0, .int .i64 0, .int .i64 0, .int .i64 0, .int .i64 0, .int .i64 0, .int .i64 0, .int .i64 0, .int .i64 0, .int .i64 0, .int .i64 0, .int .i64 0, .int .i64 0, .int .i64 0, .int .i64 0, .int .i64 0, .int .i64 0, .bool false, .bool false, .bool false, .bool false, .bool false, .bool false, .bool false, .bool false, .bool false, .bool false] 116)
  refine ⟨⟨_, hb⟩, ?_, fun i hi => ?_, fun i hi => ?_, fun i hi => ?_⟩
  · rw [cell_of_row _ _ _ _ _ _ hb]; rfl
  · rw [cell_of_row _ _ _ _ _ _ hb]
    match i, hi with
    | 0, _ => rfl
    | 1, _ => rfl
    | 2, _ => rfl
    | 3, _ => rfl
    | 4, _ => rfl
    | 5, _ => rfl
    | 6, _ => rfl
    | 7, _ => rfl
    | 8, _ => rfl
    | 9, _ => rfl
  · rw [cell_of_row _ _ _ _ _ _ hb]
    match i, hi with
    | 0, _ => rfl
    | 1, _ => rfl
    | 2, _ => rfl
    | 3, _ => rfl
    | 4, _ => rfl
    | 5, _ => rfl
    | 6, _ => rfl
    | 7, _ => rfl
    | 8, _ => rfl
    | 9, _ => rfl
  · rw [cell_of_row _ _ _ _ _ _ hb]
    match i, hi with
    | 0, _ => rfl
    | 1, _ => rfl
    | 2, _ => rfl
    | 3, _ => rfl
    | 4, _ => rfl
    | 5, _ => rfl
    | 6, _ => rfl
    | 7, _ => rfl
    | 8, _ => rfl
    | 9, _ => rfl

set_option maxRecDepth 100000 in
set_option maxHeartbeats 4000000 in
theorem aopen_any (n : Nat) (C : Nat → Nat → Int) (vc : Value) (w : World) (hn : n ≤ 10) (hsq : SqR w vc n C) :
    Calls Try.prog 56 #[vc] w fun e w' => ∃ p, e = .returned (.pointer (some ⟨p, 0, none⟩)) ∧ w.heap.size ≤ p ∧ ∃ ow : Nat → Int, (∀ c, c < n → ow c = -1) ∧ TabAt w' p n vc (fun _ => 0) (fun _ => 0) ow ∧ Below w.heap.size w w' := by
  obtain ⟨af, cf, rfl, _, _⟩ := hsq
  have HT0 := hid (tab_new w n (.slice af n cf))
  go_enter Try.func56, Try.ntmps56
  go_wp2_with fail
  go_loopw [4] (fun i wr => ∃ (k : Nat) (ow : Nat → Int), k ≤ n ∧ i = .int .i64 k ∧ Hid (∀ c, c < k → ow c = -1) ∧ Hid (TabAt wr w.heap.size n (.slice af n cf) (fun _ => 0) (fun _ => 0) ow) ∧ Hid (Below w.heap.size w wr)) (fun i _ => n - (intOf i).toNat)
  case atStart => exact ⟨0, fun _ => 0, Nat.zero_le _, rfl, fun c h => absurd h (by omega), HT0, below1 w _⟩
  case round =>
    clear HT0
    obtain ⟨k, ow, hk, rfl, HO, HT, HB⟩ := hrel
    have t0 := HT.out.c0
    have hpw := HT.out.lt
    by_cases hlt : k < n
    · have o0 := HT.out.co k (by omega)
      have fz := HT.out.frozen (22 + k)
      have ik : (0 : Int) ≤ (k : Int) := by omega
      have jk : (k : Int) < 10 := by omega
      have HX : Hid (∀ c, c < k + 1 → up1 ow k (-1) c = -1) := fun c hc => by
        unfold up1
        by_cases e : c = k
        · rw [if_pos e]
        · rw [if_neg e]; exact HO.out c (by omega)
      go_wp2_with go_in
      go_roundw
      case rel => exact ⟨k + 1, up1 ow k (-1), by omega, by go_num, HX, HT.out.putO (by omega) _, HB.out.setCell (by exact Nat.le_refl _) _⟩
      case measure => simp [intOf]; omega
    · have HX : Hid (∀ c, c < n → ow c = -1) := fun c hc => HO.out c (by omega)
      go_wp2_with go_in
      go_ret
      exact ⟨_, rfl, Nat.le_refl _, ow, HX.out, HT.out, HB.out⟩
end Go.Proofs.Ytebinaopncclgaa
