/- Walks of the document's answer: numbers and lines are written. -/
import Derived.Test.YtebinaopncclgaaGreatDoorBase
import Derived.Test.YtebinaopncclgaaGreatDoorPlainD
import Derived.Test.YtebinaopncclgaaGreatDoorPlainE
import Derived.Test.YtebinaopncclgaaGreatDoorFrame
import Derived.Test.YtebinaopncclgaaGreatDoorRefP
import Derived.Laws.BytesArg
namespace Go.Proofs.YtebinaopncclgaaGreatDoor
open Go.RowKit Go.IntWalk

theorem retS {a b : ByteArray} (h : a = b) : Ending.returned (.string a) = .returned (.string b) := by rw [h]
theorem conv1 (W : World) (m : Nat) :
    (convert 151 9 (.slice (some ⟨W.heap.size, 0, none⟩) 1 1)).run Tryz.prog (W.alloc (.cells #[.int .u8 (48 + (m : Int) % 10)] 5)) = .ok (.string ⟨#[dg m]⟩) (W.alloc (.cells #[.int .u8 (48 + (m : Int) % 10)] 5)) := by
  have h := run_convert_bytes_arg (P := Tryz.prog) (W.alloc (.cells #[.int .u8 (48 + (m : Int) % 10)] 5)) 151 5 Tryz.underlying151 Tryz.underlying5 W.heap.size 0 1 1 [48 + (m : Int) % 10] rfl
    (by intro i hi; obtain rfl : i = 0 := by omega
        exact cell_of_row _ W.heap.size 0 _ _ (0, 0) (heap_alloc_new W _)) 9 Tryz.underlying9
  rw [h]
  have e : strOfNums [48 + (m : Int) % 10] = ⟨#[dg m]⟩ := by
    have : (48 + (m : Int) % 10).toNat = 48 + m % 10 := by omega
    simp only [strOfNums, List.map_cons, List.map_nil, this]; rfl
  rw [e]
theorem conv10 (W : World) :
    (convert 151 9 (.slice (some ⟨W.heap.size, 0, none⟩) 1 1)).run Tryz.prog (W.alloc (.cells #[.int .u8 10] 5)) = .ok (.string ⟨#[10]⟩) (W.alloc (.cells #[.int .u8 10] 5)) := by
  have h := run_convert_bytes_arg (P := Tryz.prog) (W.alloc (.cells #[.int .u8 10] 5)) 151 5 Tryz.underlying151 Tryz.underlying5 W.heap.size 0 1 1 [10] rfl
    (by intro i hi; obtain rfl : i = 0 := by omega
        exact cell_of_row _ W.heap.size 0 _ _ (0, 0) (heap_alloc_new W _)) 9 Tryz.underlying9
  rw [h]; rfl

set_option maxHeartbeats 1000000 in
theorem decimal_low (f n : Nat) (w : World) (hn : n ≤ 9) :
    Calls Tryz.prog 113 #[.int .i64 n] w fun e w' => e = .returned (.string ⟨(decF f n).toArray⟩) ∧ Below w.heap.size w w' := by
  have kc := fun W => conv1 W n
  go_enter Tryz.func113, Tryz.ntmps113
  go_wp2
  go_ret
  exact ⟨retS (by rw [decF_low hn]), below1 _ _⟩
set_option maxHeartbeats 1000000 in
theorem decimal_any (f : Nat) : ∀ (n : Nat) (w : World), f ≤ 5 → n < 10 ^ (f + 1) → n ≤ 99999 →
    Calls Tryz.prog 113 #[.int .i64 n] w fun e w' => e = .returned (.string ⟨(decF f n).toArray⟩) ∧ Below w.heap.size w w' := by
  induction f with
  | zero => intro n w _ h _; exact decimal_low 0 n w (by omega)
  | succ f ih =>
    intro n w hf h hn
    by_cases h9 : n ≤ 9
    · exact decimal_low (f + 1) n w h9
    · have kc := fun W => conv1 W n
      have IH : Hid (∀ W, Calls Tryz.prog 113 #[.int .i64 ((n / 10 : Nat) : Int)] W fun e w' => e = .returned (.string ⟨(decF f (n / 10)).toArray⟩) ∧ Below W.heap.size W w') := fun W => ih (n / 10) W (by omega) (by rw [Nat.pow_succ] at h; omega) (by omega)
      have HL := decF_length f (n / 10)
      have HF : Hid (decF (f + 1) n = decF f (n / 10) ++ [dg n]) := decF_step (by omega)
      clear ih h
      go_enter Tryz.func113, Tryz.ntmps113
      go_wp2_with fail
      refine (show Calls Tryz.prog 113 #[.int .i64 ((n : Int) / 10)] _ _ from IH.out _).mono ?_
      rintro e1 w1 ⟨rfl, hb1⟩
      have HB : Hid (Below w.heap.size w w1) := (below1 w _).trans (hb1.mono (by simp))
      clear hb1 IH kc
      go_wp2
      go_ret
      refine ⟨retS ?_, HB.out⟩
      rw [HF.out]; apply ByteArray.ext; simp [ByteArray.data_append]

set_option maxHeartbeats 1000000 in
theorem rline_all (b n c : Nat) (k : List UInt8) (zs : List Int) (w : World) (hn : zs.length = n) (hl : n ≤ 10) (hk : k.length ≤ 10) (hb : b < w.heap.size)
    (hz : ∀ z ∈ zs, 0 ≤ z ∧ z ≤ 99999) (hc : ∀ i, i < n → w.cell? ⟨b, i, none⟩ = some (.int .i64 (zs.getD i 0))) :
    Calls Tryz.prog 66 #[.string ⟨k.toArray⟩, .slice (some ⟨b, 0, none⟩) n c] w fun e w' => e = .returned (.string ⟨(lineL k zs).toArray⟩) ∧ Below w.heap.size w w' := by
  subst hn
  have kc := conv10
  go_enter Tryz.func66, Tryz.ntmps66
  go_wp2_with fail
  go_loopw [0, 5] (fun s i wr => ∃ (m : Nat) (t : List UInt8), i = .int .i64 m ∧ s = .string ⟨t.toArray⟩ ∧ m ≤ zs.length ∧ t.length ≤ 10 + 7 * m ∧ Hid (t = k ++ wrds (zs.take m)) ∧ Below w.heap.size w wr) (fun _ i _ => zs.length - (intOf i).toNat)
  case atStart => exact ⟨0, k, rfl, rfl, by simp, by omega, by show _ = _; simp [wrds], Below.refl _ _⟩
  case round =>
    obtain ⟨m, t, rfl, rfl, hm, ht, HT, hbel⟩ := hrel
    have hsize := hbel.size
    by_cases hlt : m < zs.length
    · have hcm : wr.cell? ⟨b, m, none⟩ = some (.int .i64 zs[m]) := by
        rw [hbel.cell (by exact hb), hc m hlt]; simp [hlt]
      have hzm := hz zs[m] (List.getElem_mem hlt)
      have HS' : Hid (wrds (zs.take (m + 1)) = wrds (zs.take m) ++ wrd zs[m]) := wrds_snoc hlt
      clear hc hz
      generalize zs[m] = z at *
      obtain ⟨q, rfl⟩ := Int.eq_ofNat_of_zero_le hzm.1
      have hq : q ≤ 99999 := by omega
      have HQ' : (decF 5 q).length ≤ 6 := decF_length 5 q
      clear hzm
      go_wp2_with (go_at_call 113; refine (decimal_any 5 q _ (by omega) (by omega) hq).mono ?_; rintro e w' ⟨rfl, hb1⟩)
      go_roundw
      case rel =>
        refine ⟨m + 1, t ++ wrd q, by go_num, ?_, by omega, ?_, ?_, hbel.trans (hb1.mono hsize)⟩
        · show Value.string _ = Value.string _
          congr 1; apply ByteArray.ext; simp [ByteArray.data_append, wrd, decS]
        · have := wrd_length q; simp; omega
        · show _ = _; rw [HS'.out, HT.out]; simp
      case measure => simp [intOf]; omega
    · go_wp2
      go_ret
      refine ⟨retS ?_, hbel.trans ((below1 _ _).mono hsize)⟩
      have e : lineL k zs = t ++ [10] := by unfold lineL; rw [HT.out, List.take_of_length_le (by omega)]
      rw [e]; apply ByteArray.ext; simp [ByteArray.data_append]
end Go.Proofs.YtebinaopncclgaaGreatDoor
