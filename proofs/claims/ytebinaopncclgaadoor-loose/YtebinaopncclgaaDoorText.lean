/- Walks: an instance's text. -/
import Derived.Test.YtebinaopncclgaaDoorBase
import Derived.Test.YtebinaopncclgaaDoorPlainD
import Derived.Test.YtebinaopncclgaaDoorFrame
import Derived.Laws.BytesArg
namespace Go.Proofs.YtebinaopncclgaaDoor
open Go.RowKit Go.IntWalk

theorem retS {a b : ByteArray} (h : a = b) : Ending.returned (.string a) = .returned (.string b) := by rw [h]
theorem conv1 (W : World) (m : Nat) :
    (convert 52 9 (.slice (some ⟨W.heap.size, 0, none⟩) 1 1)).run Tryd.prog (W.alloc (.cells #[.int .u8 (48 + (m : Int) % 10)] 5)) = .ok (.string ⟨#[dg m]⟩) (W.alloc (.cells #[.int .u8 (48 + (m : Int) % 10)] 5)) := by
  have h := run_convert_bytes_arg (P := Tryd.prog) (W.alloc (.cells #[.int .u8 (48 + (m : Int) % 10)] 5)) 52 5 Tryd.underlying52 Tryd.underlying5 W.heap.size 0 1 1 [48 + (m : Int) % 10] rfl
    (by intro i hi; obtain rfl : i = 0 := by omega
        exact cell_of_row _ W.heap.size 0 _ _ (0, 0) (heap_alloc_new W _)) 9 Tryd.underlying9
  rw [h]
  have e : strOfNums [48 + (m : Int) % 10] = ⟨#[dg m]⟩ := by
    have : (48 + (m : Int) % 10).toNat = 48 + m % 10 := by omega
    simp only [strOfNums, List.map_cons, List.map_nil, this]; rfl
  rw [e]

set_option maxHeartbeats 1000000 in
theorem digits_any (n : Nat) (w : World) (hn : n ≤ 99999) :
    Calls Tryd.prog 13 #[.int .i64 n] w fun e w' => e = .returned (.string ⟨(decS n).toArray⟩) ∧ Below w.heap.size w w' := by
  go_enter Tryd.func13, Tryd.ntmps13
  go_wp2
  go_loopw [0, 3] (fun i s wr => ∃ (f m : Nat) (t : List UInt8), i = .int .i64 m ∧ s = .string ⟨t.toArray⟩ ∧ m ≤ 99999 ∧ Hid (m < 10 ^ (f + 1)) ∧ t.length ≤ 5 ∧ t.length + f ≤ 5 ∧ Hid (decF f m ++ t = decF 5 n) ∧ Below w.heap.size w wr) (fun i _ _ => (intOf i).toNat)
  case atStart => exact ⟨5, n, [], rfl, rfl, hn, by show _ < _; omega, by simp, by simp, by show _ = _; simp, Below.refl _ _⟩
  case round =>
    obtain ⟨f, m, t, rfl, rfl, hm, HM, ht, htf, HD, hbel⟩ := hrel
    have kc := fun W => conv1 W m
    have hsize := hbel.size
    by_cases h9 : 9 < m
    · go_wp2
      go_roundw
      case rel =>
        obtain ⟨f', rfl⟩ : ∃ f', f = f' + 1 := by
          cases f with
          | zero => have := HM.out; omega
          | succ f' => exact ⟨f', rfl⟩
        refine ⟨f', m / 10, dg m :: t, by go_num, by rw [ba_cons], by omega, ?_, by simp; omega, by simp; omega, ?_, hbel.alloc hsize _⟩
        · have := HM.out; show m / 10 < 10 ^ (f' + 1); rw [Nat.pow_succ] at this; omega
        · show _ = _; rw [← HD.out, decF_step h9]; simp
      case measure => simp [intOf]; omega
    · go_wp2
      go_ret
      refine ⟨retS ?_, hbel.alloc hsize _⟩
      have e : decS n = dg m :: t := by
        show decF 5 n = _
        rw [← HD.out, decF_low (by omega)]; rfl
      rw [e]; apply ByteArray.ext; simp [ByteArray.data_append]
end Go.Proofs.YtebinaopncclgaaDoor
