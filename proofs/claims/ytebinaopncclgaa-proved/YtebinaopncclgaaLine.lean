/- Walks: the text of a line. -/
import Derived.Test.YtebinaopncclgaaText
import Derived.Test.YtebinaopncclgaaPlainE
namespace Go.Proofs.Ytebinaopncclgaa
open Go.RowKit Go.IntWalk

set_option maxHeartbeats 1000000 in
theorem line0_any (b n c : Nat) (k : List UInt8) (zs : List Int) (w : World) (hn : zs.length = n) (hl : n ≤ 10) (hk : k.length ≤ 10) (hb : b < w.heap.size)
    (hz : ∀ z ∈ zs, 0 ≤ z ∧ z ≤ 99999) (hc : ∀ i, i < n → w.cell? ⟨b, i, none⟩ = some (.int .i64 (zs.getD i 0))) :
    Calls Try.prog 27 #[.string ⟨k.toArray⟩, .slice (some ⟨b, 0, none⟩) n c, .int .i64 0] w fun e w' => e = .returned (.string ⟨(lineL k zs).toArray⟩) ∧ Below w.heap.size w w' := by
  subst hn
  have hbits : bits BinOp.and IntKind.i64 0 1 = 0 := by decide
  go_enter Try.func27, Try.ntmps27
  go_wp2
  go_loopw [0, 7, 8] (fun s i d wr => ∃ (m : Nat) (t : List UInt8), i = .int .i64 m ∧ s = .string ⟨t.toArray⟩ ∧ m ≤ zs.length ∧ t.length ≤ 10 + 7 * m ∧ Hid (t = k ++ wrds (zs.take m)) ∧ Below w.heap.size w wr) (fun _ i _ _ => zs.length - (intOf i).toNat)
  case atStart => exact ⟨0, k, rfl, rfl, by simp, by omega, by show _ = _; simp [wrds], Below.refl _ _⟩
  case round =>
    obtain ⟨m, t, rfl, rfl, hm, ht, HT, hbel⟩ := hrel
    have hsize := hbel.size
    by_cases hlt : m < zs.length
    · have hcm : wr.cell? ⟨b, m, none⟩ = some (.int .i64 zs[m]) := by
        rw [hbel.cell (by exact hb), hc m hlt]; simp [hlt]
      have hzm := hz zs[m] (List.getElem_mem hlt)
      have HS := wrds_snoc hlt
      have HS' : Hid (wrds (zs.take (m + 1)) = wrds (zs.take m) ++ wrd zs[m]) := HS
      clear hc hz HS
      generalize zs[m] = z at *
      obtain ⟨q, rfl⟩ := Int.eq_ofNat_of_zero_le hzm.1
      have hq : q ≤ 99999 := by omega
      have HQ := decF_length 5 q
      have HQ' : (decS q).length ≤ 6 := HQ
      clear hzm HQ
      go_wp2_with (go_at_call 47; refine (digits_any q _ hq).mono ?_; rintro e w' ⟨rfl, hb1⟩)
      go_roundw
      case rel =>
        refine ⟨m + 1, t ++ wrd q, by go_num, ?_, by omega, ?_, ?_, hbel.trans (hb1.mono hsize)⟩
        · show Value.string _ = Value.string _
          congr 1; apply ByteArray.ext; simp [ByteArray.data_append, wrd]
        · have := wrd_length q; simp; omega
        · show _ = _; rw [HS'.out, HT.out]; simp
      case measure => simp [intOf]; omega
    · go_wp2
      go_ret
      refine ⟨retS ?_, hbel⟩
      have e : lineL k zs = t ++ [10] := by unfold lineL; rw [HT.out, List.take_of_length_le (by omega)]
      rw [e]; apply ByteArray.ext; simp [ByteArray.data_append]
end Go.Proofs.Ytebinaopncclgaa
