/- Walks: an instance is printed. -/
import Derived.Test.YtebinaopncclgaaDoorTextG
import Derived.Test.YtebinaopncclgaaDoorShelf
import Derived.Test.YtebinaopncclgaaDoorFault
import Derived.Lib.AppendIntMem
namespace Go.Proofs.YtebinaopncclgaaDoor
open Go.RowKit Go.IntWalk

/- the table of powers of ten, in every world that keeps what lies below B -/
def Tab (B : Nat) (w : World) : Prop := Lib.TabBelow Tryd.prog B w "internal/strconv.uint64pow10" .u64 Lib.pow10Tab
theorem Tab.on {B C : Nat} {w w' : World} (h : Tab B w) (hb : Below C w w') (hC : B ≤ C) : Tab B w' := Lib.TabBelow.on h (hb.mono hC)

theorem dec_digits (f u : Nat) (h : u < 10 ^ (f + 1)) : Lib.decDigits u = decF f u := by
  induction f generalizing u with
  | zero => have h9 : u < 10 := by omega
            rw [Lib.decDigits, dif_pos h9, decF_low (by omega), dg, Nat.mod_eq_of_lt h9]
  | succ f ih =>
    rw [Lib.decDigits]
    by_cases h9 : u < 10
    · rw [dif_pos h9, decF_low (by omega), dg, Nat.mod_eq_of_lt h9]
    · rw [decF_step (by omega), ← ih (u / 10) (by rw [Nat.pow_succ] at h; omega), dif_neg h9]; rfl
theorem itoa_small {n : Int} (h0 : 0 ≤ n) (h1 : n ≤ 99999) : Lib.itoa n = decS n.toNat := by
  obtain ⟨u, rfl⟩ := Int.eq_ofNat_of_zero_le h0
  rw [Lib.itoa_nonneg, dec_digits 5 u (by omega)]; rfl
theorem itoa_any (B : Nat) (n : Int) (w : World) (hT : Tab B w) (h0 : 0 ≤ n) (h1 : n ≤ 99999) :
    Calls Tryd.prog 26 #[.int .i64 n] w fun e w' => e = .returned (.string ⟨(decS n.toNat).toArray⟩) ∧ Below w.heap.size w w' := by
  refine (Tryd.strconv_Itoa n (by omega) (by omega) w (Lib.TabBelow.here hT)).mono ?_
  rintro e w' ⟨rfl, k, os, rfl⟩
  rw [itoa_small h0 h1]
  exact ⟨rfl, Lib.below_grow _ _ (Nat.le_refl _) _ _⟩

set_option maxHeartbeats 1000000 in
theorem lineOf_any (B b n c : Nat) (k : List UInt8) (zs : List Int) (w : World) (hT : Tab B w) (hB : B ≤ w.heap.size) (hn : zs.length = n) (hl : n ≤ 10) (hk : k.length ≤ 10) (hb : b < w.heap.size)
    (hz : ∀ z ∈ zs, 0 ≤ z ∧ z ≤ 99999) (hc : ∀ i, i < n → w.cell? ⟨b, i, none⟩ = some (.int .i64 (zs.getD i 0))) :
    Calls Tryd.prog 17 #[.string ⟨k.toArray⟩, .slice (some ⟨b, 0, none⟩) n c] w fun e w' => e = .returned (.string ⟨(lineL k zs).toArray⟩) ∧ Below w.heap.size w w' := by
  subst hn
  have HTB := hide hT
  clear hT
  go_enter Tryd.func17, Tryd.ntmps17
  go_wp2
  go_loopw [5, 6] (fun s i wr => ∃ (m : Nat) (t : List UInt8), i = .int .i64 m ∧ s = .string ⟨t.toArray⟩ ∧ m ≤ zs.length ∧ t.length ≤ 10 + 7 * m ∧ Hid (t = k ++ wrds (zs.take m)) ∧ Below w.heap.size w wr) (fun _ i _ => zs.length - (intOf i).toNat)
  case atStart => exact ⟨0, k, rfl, rfl, by simp, by omega, by show _ = _; simp [wrds], Below.refl _ _⟩
  case round =>
    obtain ⟨m, t, rfl, rfl, hm, ht, HT, hbel⟩ := hrel
    have hsize := hbel.size
    by_cases hlt : m < zs.length
    · have hcm : wr.cell? ⟨b, m, none⟩ = some (.int .i64 zs[m]) := by
        rw [hbel.cell (by exact hb), hc m hlt]; simp [hlt]
      have hzm := hz zs[m] (List.getElem_mem hlt)
      have HS' : Hid (wrds (zs.take (m + 1)) = wrds (zs.take m) ++ wrd zs[m]) := wrds_snoc hlt
      clear hc hz
      generalize zs[m] = z at *
      have hz0 := hzm.1
      have hz1 := hzm.2
      have HQ' : (decS z.toNat).length ≤ 6 := decF_length 5 z.toNat
      have HTW : Hid (Tab B wr) := Tab.on HTB.out hbel hB
      clear hzm
      go_wp2_with (go_at_call 26; refine (itoa_any B z _ HTW.out hz0 hz1).mono ?_; rintro e w' ⟨rfl, hb1⟩)
      go_roundw
      case rel =>
        refine ⟨m + 1, t ++ wrd z, by go_num, ?_, by omega, ?_, ?_, hbel.trans (hb1.mono hsize)⟩
        · show Value.string _ = Value.string _
          first | done | (congr 1; first | done | (apply ByteArray.ext; simp [ByteArray.data_append, wrd]))
        · have := wrd_length z; simp; omega
        · show _ = _; rw [HS'.out, HT.out]; simp
      case measure => simp [intOf]; omega
    · go_wp2
      go_ret
      refine ⟨retS ?_, hbel⟩
      have e : lineL k zs = t ++ [10] := by unfold lineL; rw [HT.out, List.take_of_length_le (by omega)]
      rw [e]; apply ByteArray.ext; simp [ByteArray.data_append]
end Go.Proofs.YtebinaopncclgaaDoor
