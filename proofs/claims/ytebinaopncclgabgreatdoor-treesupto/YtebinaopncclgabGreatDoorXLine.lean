/- Walks of the document's answer: a line of a tree's text is written. -/
import Derived.Test.YtebinaopncclgabGreatDoorRTree
namespace Go.Proofs.YtebinaopncclgabGreatDoor
open Go.RowKit Go.IntWalk

def wrdsT (zs : List Int) : List UInt8 := (zs.map fun z => 32 :: decT z).flatten
theorem wrdsT_snoc {zs : List Int} {m : Nat} (h : m < zs.length) : wrdsT (zs.take (m + 1)) = wrdsT (zs.take m) ++ (32 :: decT zs[m]) := by
  unfold wrdsT
  rw [List.take_succ_eq_append_getElem h, List.map_append, List.flatten_append]
  simp only [List.map_cons, List.map_nil, List.flatten_cons, List.flatten_nil, List.append_nil]
theorem body_wrds (nd : NodeT) : bodyT nd = letT nd.1 :: wrdsT nd.2 := rfl
set_option maxHeartbeats 1000000 in
theorem rlineT_any (b o n c : Nat) (k : List UInt8) (zs : List Int) (w : World) (hn : zs.length = n) (hl : n ≤ 20) (hk : k.length ≤ 10) (hb : b < w.heap.size)
    (hz : ∀ z ∈ zs, -100000000 ≤ z ∧ z ≤ 100000000) (hc : ∀ i, i < n → w.cell? ⟨b, o + i, none⟩ = some (.int .i64 (zs.getD i 0))) :
    Calls Tryz.prog 100 #[.string ⟨k.toArray⟩, .slice (some ⟨b, o, none⟩) n c] w fun e w' => e = .returned (.string ⟨(k ++ wrdsT zs ++ [10]).toArray⟩) ∧ Below w.heap.size w w' := by
  subst hn
  have kc := conv10
  go_enter Tryz.func100, Tryz.ntmps100
  go_wp2_with fail
  go_loopw [0, 5] (fun s i wr => ∃ (m : Nat) (t : List UInt8), i = .int .i64 m ∧ s = .string ⟨t.toArray⟩ ∧ m ≤ zs.length ∧ t.length ≤ 10 + 11 * m ∧ Hid (t = k ++ wrdsT (zs.take m)) ∧ Below w.heap.size w wr) (fun _ i _ => zs.length - (intOf i).toNat)
  case atStart => exact ⟨0, k, rfl, rfl, by simp, by omega, by show _ = _; simp [wrdsT], Below.refl _ _⟩
  case round =>
    obtain ⟨m, t, rfl, rfl, hm, ht, HT, hbel⟩ := hrel
    have hsize := hbel.size
    by_cases hlt : m < zs.length
    · have hcm : wr.cell? ⟨b, o + m, none⟩ = some (.int .i64 zs[m]) := by
        rw [hbel.cell (by exact hb), hc m hlt]; simp [hlt]
      have hzm := hz zs[m] (List.getElem_mem hlt)
      have HS' : Hid (wrdsT (zs.take (m + 1)) = wrdsT (zs.take m) ++ (32 :: decT zs[m])) := wrdsT_snoc hlt
      have hdl := decT_len hzm.1 hzm.2
      clear hc hz
      generalize zs[m] = z at *
      go_wp2_with (go_at_call 160; refine (decimalT_any z _ (by omega) (by omega)).mono ?_; rintro e w' ⟨rfl, hb1⟩)
      go_roundw
      case rel =>
        refine ⟨m + 1, t ++ (32 :: decT z), by go_num, ?_, by omega, ?_, ?_, hbel.trans (hb1.mono hsize)⟩
        · show Value.string _ = Value.string _
          congr 1; apply ByteArray.ext; simp [ByteArray.data_append]
        · simp; omega
        · show _ = _; rw [HS'.out, HT.out]; simp
      case measure => simp [intOf]; omega
    · go_wp2
      go_ret
      refine ⟨retS ?_, hbel.trans ((below1 _ _).mono hsize)⟩
      have e : k ++ wrdsT zs ++ [10] = t ++ [10] := by rw [HT.out, List.take_of_length_le (by omega)]
      rw [e]; apply ByteArray.ext; simp [ByteArray.data_append]
end Go.Proofs.YtebinaopncclgabGreatDoor
