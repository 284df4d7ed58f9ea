/- Walks: the text of a tree is written. -/
import Derived.Test.YtebinaopncclgabGreatDoorXWrite
import Derived.Test.YtebinaopncclgabGreatDoorShelf
import Derived.Lib.AppendIntMem
namespace Go.Proofs.YtebinaopncclgabGreatDoor
open Go.RowKit Go.IntWalk

/- the table of powers of ten, in every world that keeps what lies below B -/
def TabX (B : Nat) (w : World) : Prop := Lib.TabBelow Tryz.prog B w "internal/strconv.uint64pow10" .u64 Lib.pow10Tab
theorem TabX.on {B C : Nat} {w w' : World} (h : TabX B w) (hb : Below C w w') (hC : B ≤ C) : TabX B w' := Lib.TabBelow.on h (hb.mono hC)
theorem digs_dec (f u : Nat) (h : u < 10 ^ (f + 1)) : Lib.decDigits u = decF f u := by
  induction f generalizing u with
  | zero => have h9 : u < 10 := by omega
            rw [Lib.decDigits, dif_pos h9, decF_low (by omega), dg, Nat.mod_eq_of_lt h9]
  | succ f ih =>
    rw [Lib.decDigits]
    by_cases h9 : u < 10
    · rw [dif_pos h9, decF_low (by omega), dg, Nat.mod_eq_of_lt h9]
    · rw [decF_step (by omega), ← ih (u / 10) (by rw [Nat.pow_succ] at h; omega), dif_neg h9]; rfl
theorem itoa_dec {z : Int} (h1 : -100000000 ≤ z) (h2 : z ≤ 100000000) : Lib.itoa z = decT z := by
  unfold Lib.itoa decT
  split
  · rw [digs_dec 9 z.natAbs (by omega), show z.natAbs = (-z).toNat by omega]
  · rw [digs_dec 9 z.toNat (by omega)]
theorem itoaT_any (B : Nat) (z : Int) (w : World) (hT : TabX B w) (h1 : -100000000 ≤ z) (h2 : z ≤ 100000000) :
    Calls Tryz.prog 151 #[.int .i64 z] w fun e w' => e = .returned (.string ⟨(decT z).toArray⟩) ∧ Below w.heap.size w w' := by
  refine (Tryz.strconv_Itoa z (by omega) (by omega) w (Lib.TabBelow.here hT)).mono ?_
  rintro e w' ⟨rfl, k, os, rfl⟩
  rw [itoa_dec h1 h2]
  exact ⟨rfl, Lib.below_grow _ _ (Nat.le_refl _) _ _⟩

set_option maxRecDepth 100000 in
set_option maxHeartbeats 4000000 in
theorem tlineOf_any (B : Nat) (nd : NodeT) (v : Value) (w : World) (hT : TabX B w) (hB : B ≤ w.heap.size) (hn : nodeOkT nd = true) (hr : ListO w v nd.2) :
    Calls Tryz.prog 92 #[.agg #[.int .i64 nd.1, v]] w fun e w' => e = .returned (.string ⟨(lineT nd).toArray⟩) ∧ Below w.heap.size w w' := by
  obtain ⟨kd, zs⟩ := nd
  obtain ⟨h1, h2⟩ := nodeOk_parts hn
  have h3 := cntT_kind h1
  dsimp only at h2 h3 hr ⊢
  have hz20 : zs.length ≤ 20 := by omega
  have HLT := hid (fun W => letterOf_any kd W (by omega))
  have HLN : Hid (lineT (kd, zs) = (letT kd :: wrdsT zs) ++ [10]) := rfl
  have HTB := hid hT
  obtain ⟨ao, c, rfl, hr⟩ := hr
  have HR := hid hr
  have HZ := hid h2
  obtain ⟨W, hW⟩ : ∃ W, W = w.alloc (.cells #[.int .i64 kd, .slice ao zs.length c] 76) := ⟨_, rfl⟩
  have HBW : Hid (Below w.heap.size w W) := by show Below _ _ _; rw [hW]; exact below1 w _
  have hbx : W.heap[w.heap.size]? = some (.cells #[.int .i64 kd, .slice ao zs.length c] 76 (0, 0)) := by rw [hW]; exact heap_alloc_new w _
  have HBX := hid hbx
  have HWQ := hid hW
  clear hT hr h1 h2 h3 hn hW hbx
  go_enter Tryz.func92, Tryz.ntmps92
  go_wp2_with fail
  refine (HLT.out _).mono ?_
  rintro e1 w1 ⟨rfl, rfl⟩
  rw [← HWQ.out]
  go_wp2_with fail
  go_loopw [3, 4] (fun s i wr => ∃ (m : Nat) (t : List UInt8), i = .int .i64 m ∧ s = .string ⟨t.toArray⟩ ∧ m ≤ zs.length ∧ t.length ≤ 1 + 11 * m ∧ Hid (t = letT kd :: wrdsT (zs.take m)) ∧ Hid (Below W.heap.size W wr)) (fun _ i _ => zs.length - (intOf i).toNat)
  case atStart => exact ⟨0, [letT kd], rfl, rfl, by simp, by simp, by show _ = _; simp [wrdsT], Below.refl _ _⟩
  case round =>
    obtain ⟨m, t, rfl, rfl, hm, ht, HT, HB⟩ := hrel
    have hlW : w.heap.size < W.heap.size := (Array.getElem?_eq_some_iff.1 HBX.out).1
    have hb1 := (HB.out.block _ hlW).trans HBX.out
    have p1 : wr.cell? ⟨w.heap.size, 1, none⟩ = some (.slice ao zs.length c) := cell_of_row wr _ 1 _ _ _ hb1
    have lw : w.heap.size < wr.heap.size := (Array.getElem?_eq_some_iff.1 hb1).1
    clear hb1
    by_cases hlt : m < zs.length
    · obtain ⟨b, o, rfl, hbl, hz⟩ := HR.out m hlt
      have x0 : wr.cell? ⟨b, o + m, none⟩ = _ := (HB.out.cell (by exact Nat.lt_of_lt_of_le hbl HBW.out.size)).trans ((HBW.out.cell (by exact hbl)).trans hz)
      have lb : b < wr.heap.size := Nat.lt_of_lt_of_le (Nat.lt_of_lt_of_le hbl HBW.out.size) HB.out.size
      have HSN := hid (wrdsT_snoc hlt)
      have hzm := HZ.out _ (getD_mem hlt)
      rw [← getD_get hlt] at HSN
      generalize zs.getD m 0 = z at *
      have hdl := decT_len hzm.1 hzm.2
      have im : (0 : Int) ≤ (m : Int) := by omega
      have jm : (m : Int) < (zs.length : Int) := by omega
      have HIT : Hid (∀ W', Below wr.heap.size wr W' → Calls Tryz.prog 151 #[.int .i64 z] W' fun e w' => e = .returned (.string ⟨(decT z).toArray⟩) ∧ Below W'.heap.size W' w') := fun W' hW' => itoaT_any B z W' (HTB.out.on ((HBW.out.trans (HB.out.mono HBW.out.size)).trans (hW'.mono (Nat.le_trans HBW.out.size HB.out.size))) hB) hzm.1 hzm.2
      clear hz
      go_wp2_with fail
      refine (HIT.out _ (Below.refl _ _)).mono ?_
      rintro e2 w2 ⟨rfl, hb2⟩
      have HB2 : Hid (Below W.heap.size W w2) := HB.out.trans (hb2.mono HB.out.size)
      clear hb2 HIT
      go_wp2_with fail
      go_roundw
      case rel =>
        refine ⟨m + 1, t ++ (32 :: decT z), by go_num, ?_, by omega, ?_, ?_, HB2⟩
        · show Value.string _ = Value.string _
          first | rfl | (congr 1; done) | (congr 1; apply ByteArray.ext; simp [ByteArray.data_append])
        · simp; omega
        · show _ = _; rw [HSN.out, HT.out]; simp
      case measure => simp [intOf]; omega
    · have HE : Hid (t ++ [10] = lineT (kd, zs)) := by
        show _ = _
        rw [HLN.out, HT.out, List.take_of_length_le (by omega)]
      go_wp2_with fail
      go_ret
      refine ⟨retS ?_, HBW.out.trans (HB.out.mono HBW.out.size)⟩
      rw [← HE.out]; apply ByteArray.ext; simp [ByteArray.data_append]

set_option maxRecDepth 100000 in
set_option maxHeartbeats 8000000 in
theorem twrite_any (B : Nat) (L : List NodeT) (v : Value) (w : World) (hT : TabX B w) (hB : B ≤ w.heap.size) (hL : L.length ≤ 2000000) (hl : ∀ nd ∈ L, nd.2.length ≤ 2000000) (hr : TreeO w v L) :
    Calls Tryz.prog 42 #[v] w fun e w' => e = .returned (.tuple #[.string ⟨(writeT L).1.toArray⟩, .int .i64 (writeT L).2]) ∧ Below w.heap.size w w' := by
  obtain ⟨i0, hi, hz0, hz1, hz2⟩ := info_parts Tryz.infoU8
  have HIS := hid (isTree_any L v w hL hl hr)
  have HR := hid hr
  have HTB := hid hT
  have HWR : Hid (writeT L = if treeT 1 L = true then (textT L, 0) else ([], 14)) := rfl
  have HTN : Hid (treeT 1 L = true → ∀ nd ∈ L, nodeOkT nd = true) := fun h => tree_nodes L 1 h
  obtain ⟨ao, c, rfl, _⟩ := hr
  generalize writeT L = ans at *
  generalize treeT 1 L = bt at *
  clear hl hT
  cases bt with
  | false =>
    rw [if_neg (by simp)] at HWR
    go_enter Tryz.func42, Tryz.ntmps42
    go_wp2_with fail
    refine HIS.out.mono ?_
    rintro e1 w1 ⟨rfl, hb1⟩
    have HB1 := hid hb1
    clear hb1 HIS
    go_wp2_with fail
    refine bodyPost_ret (v := .tuple #[.string ⟨#[]⟩, .int .i64 14]) (by simp [results, Tryz.results42, go_sem]) rfl ?_
    exact ⟨by rw [HWR.out], HB1.out⟩
  | true =>
    rw [if_pos rfl] at HWR
    have HOKN := hid (HTN.out rfl)
    clear HTN
    go_enter Tryz.func42, Tryz.ntmps42
    go_wp2_with fail
    refine HIS.out.mono ?_
    rintro e1 w1 ⟨rfl, hb1⟩
    have HB1 := hid hb1
    clear hb1 HIS
    go_wp2_with fail
    go_loopw [4, 5] (fun ov i wr => ∃ (k : Nat) (t : List UInt8), i = .int .i64 k ∧ k ≤ L.length ∧ t.length ≤ 230 * k ∧ Hid (t = textT (L.take k)) ∧ Hid (wr.ownsRow w.heap.size 5 1 ov t.length (Lib.strCells ⟨t.toArray⟩)) ∧ Hid (Below w.heap.size w wr)) (fun _ i _ => L.length - (intOf i).toNat)
    case atStart => exact ⟨0, [], rfl, Nat.zero_le _, by simp, rfl, World.ownsRow_nil _ _ _ _, HB1⟩
    case round =>
      obtain ⟨k, t, rfl, hk, htl, HT, HO, HB⟩ := hrel
      obtain ⟨av, cv, rfl, _, _⟩ := own_val HO.out
      by_cases hlt : k < L.length
      · obtain ⟨ao', c', hv, hz⟩ := HR.out.below HB.out
        cases hv
        obtain ⟨b, off, ai, ci, rfl, hbl, x0, x1, hli⟩ := hz k hlt
        have HTX := hid (text_snoc hlt)
        have hnk := HOKN.out _ (List.getElem_mem hlt)
        generalize L[k] = nd at *
        have hll := line_len hnk
        have HLO := hid (tlineOf_any B nd _ wr (HTB.out.on HB.out hB) (Nat.le_trans hB HB.out.size) hnk hli)
        generalize lineT nd = ln at *
        have ik : (0 : Int) ≤ (k : Int) := by omega
        have jk : (k : Int) < (L.length : Int) := by omega
        clear hz hli hnk
        go_wp2_with fail
        refine HLO.out.mono ?_
        rintro e3 w3 ⟨rfl, hb3⟩
        have HB3 : Hid (Below w.heap.size w w3) := HB.out.trans (hb3.mono HB.out.size)
        have HO3 := hid (own_below HO.out hb3)
        have hz3 := HB3.out.size
        clear hb3 HLO
        go_wp2_with (at_builtin; refine Lib.wpList_append_own_string _ rfl _ _ 144 9 rfl w.heap.size 5 i0 Tryz.underlying144 Tryz.underlying9 hi hz0 hz1 hz2 _ _ _ rfl HO3.out ⟨ln.toArray⟩ rfl ?c1 ?c2 ?c3 ?_)
        case c1 => unfold maxLen; have : (⟨ln.toArray⟩ : ByteArray).size = ln.length := by simp [ByteArray.size]
                   omega
        case c2 => have : (⟨ln.toArray⟩ : ByteArray).size = ln.length := by simp [ByteArray.size]
                   omega
        case c3 => exact hz3
        intro v5 w5 hown5 hgr5 _
        have HO5 : Hid (w5.ownsRow w.heap.size 5 1 v5 (t ++ ln).length (Lib.strCells ⟨(t ++ ln).toArray⟩)) := by
          show World.ownsRow _ _ _ _ _ _ _
          rw [str_app, List.length_append, show ln.length = (⟨ln.toArray⟩ : ByteArray).size by simp [ByteArray.size]]; exact hown5
        have HB5 : Hid (Below w.heap.size w w5) := HB3.out.grown hgr5 hz3 (fun q hq => (HO3.out.lt q hq).1)
        have HT5 : Hid (t ++ ln = textT (L.take (k + 1))) := by show _ = _; rw [HTX.out, HT.out]
        clear hown5 hgr5
        go_wp2
        go_roundw
        case rel => exact ⟨k + 1, t ++ ln, by go_num, by omega, by simp; omega, HT5, HO5, HB5⟩
        case measure => simp [intOf]; omega
      · have kc := conv_own HO.out
        have HA : Hid (ans = (t, 0)) := by show _ = _; rw [HWR.out, HT.out, List.take_of_length_le (by omega)]
        go_wp2_with fail
        refine bodyPost_ret (v := .tuple #[.string ⟨t.toArray⟩, .int .i64 0]) (by simp [results, Tryz.results42, go_sem]) rfl ?_
        exact ⟨by rw [HA.out], HB.out⟩

set_option maxRecDepth 100000 in
set_option maxHeartbeats 2000000 in
theorem dwrite_any (B : Nat) (L : List NodeT) (v : Value) (w : World) (hT : TabX B w) (hB : B ≤ w.heap.size) (hL : L.length ≤ 2000000) (hl : ∀ nd ∈ L, nd.2.length ≤ 2000000) (hr : TreeO w v L) :
    Calls Tryz.prog 73 #[v] w fun e w' => e = .returned (.tuple #[.string ⟨(writeT L).1.toArray⟩, .int .i64 (writeT L).2]) ∧ Below w.heap.size w w' := by
  have HC := hid (twrite_any B L v w hT hB hL hl hr)
  obtain ⟨ao, c, rfl, _⟩ := hr
  generalize writeT L = x at *
  clear hT hl
  go_enter Tryz.func73, Tryz.ntmps73
  go_wp2_with fail
  refine HC.out.mono ?_
  rintro e1 w1 ⟨rfl, hb1⟩
  have HB := hid hb1
  clear hb1 HC
  go_wp2
  go_ret2
  exact ⟨rfl, HB.out⟩

end Go.Proofs.YtebinaopncclgabGreatDoor
