/- Walks: the next node of a tree. -/
import Derived.Test.YtebinaopncclgabGreatDoorXWrite
import Derived.Test.YtebinaopncclgabGreatDoorShelf
import Derived.Lib.AppendIntMem
import Derived.Test.YtebinaopncclgabGreatDoorSTour
import Derived.Test.YtebinaopncclgabGreatDoorGTake
import Derived.Test.YtebinaopncclgabGreatDoorSText
import Derived.Test.YtebinaopncclgabGreatDoorSWeak
import Derived.Test.YtebinaopncclgabGreatDoorWRange
namespace Go.Proofs.YtebinaopncclgabGreatDoor
open Go.RowKit Go.IntWalk

/- the table of powers of ten, in every world that keeps what lies below B -/
def TabX (B : Nat) (w : World) : Prop := Lib.TabBelow Tryz.prog B w "internal/strconv.uint64pow10" .u64 Lib.pow10Tab
theorem TabX.on {B C : Nat} {w w' : World} (h : TabX B w) (hb : Below C w w') (hC : B ≤ C) : TabX B w' := Lib.TabBelow.on h (hb.mono hC)
theorem digs_dec (f u : Nat) (h : u < 10 ^ (f + 1)) : Lib.decDigits u = decF f u := by
  induction f generalizing u with
  | zero => have h9 : u < 10 := by omega
            rw [Lib.decDigits, dif_pos h9, decF_low (by omega), dg, Nat.mod_eq_of_lt h9]
  | succ f ih =>
    rw [Lib.decDigits]
    by_cases h9 : u < 10
    · rw [dif_pos h9, decF_low (by omega), dg, Nat.mod_eq_of_lt h9]
    · rw [decF_step (by omega), ← ih (u / 10) (by rw [Nat.pow_succ] at h; omega), dif_neg h9]; rfl
theorem itoa_dec {z : Int} (h1 : -100000000 ≤ z) (h2 : z ≤ 100000000) : Lib.itoa z = decT z := by
  unfold Lib.itoa decT
  split
  · rw [digs_dec 9 z.natAbs (by omega), show z.natAbs = (-z).toNat by omega]
  · rw [digs_dec 9 z.toNat (by omega)]
theorem itoaT_any (B : Nat) (z : Int) (w : World) (hT : TabX B w) (h1 : -100000000 ≤ z) (h2 : z ≤ 100000000) :
    Calls Tryz.prog 151 #[.int .i64 z] w fun e w' => e = .returned (.string ⟨(decT z).toArray⟩) ∧ Below w.heap.size w w' := by
  refine (Tryz.strconv_Itoa z (by omega) (by omega) w (Lib.TabBelow.here hT)).mono ?_
  rintro e w' ⟨rfl, k, os, rfl⟩
  rw [itoa_dec h1 h2]
  exact ⟨rfl, Lib.below_grow _ _ (Nat.le_refl _) _ _⟩

set_option maxRecDepth 100000 in
set_option maxHeartbeats 4000000 in
theorem tlineOf_any (B : Nat) (nd : NodeT) (v : Value) (w : World) (hT : TabX B w) (hB : B ≤ w.heap.size) (hn : nodeOkT nd = true) (hr : ListO w v nd.2) :
    Calls Tryz.prog 92 #[.agg #[.int .i64 nd.1, v]] w fun e w' => e = .returned (.string ⟨(lineT nd).toArray⟩) ∧ Below w.heap.size w w' := by
  obtain ⟨kd, zs⟩ := nd
  obtain ⟨h1, h2⟩ := nodeOk_parts hn
  have h3 := cntT_kind h1
  dsimp only at h2 h3 hr ⊢
  have hz20 : zs.length ≤ 20 := by omega
  have HLT := hid (fun W => letterOf_any kd W (by omega))
  have HLN : Hid (lineT (kd, zs) = (letT kd :: wrdsT zs) ++ [10]) := rfl
  have HTB := hid hT
  obtain ⟨ao, c, rfl, hr⟩ := hr
  have HR := hid hr
  have HZ := hid h2
  obtain ⟨W, hW⟩ : ∃ W, W = w.alloc (.cells #[.int .i64 kd, .slice ao zs.length c] 76) := ⟨_, rfl⟩
  have HBW : Hid (Below w.heap.size w W) := by show Below _ _ _; rw [hW]; exact below1 w _
  have hbx : W.heap[w.heap.size]? = some (.cells #[.int .i64 kd, .slice ao zs.length c] 76 (0, 0)) := by rw [hW]; exact heap_alloc_new w _
  have HBX := hid hbx
  have HWQ := hid hW
  clear hT hr h1 h2 h3 hn hW hbx
  go_enter Tryz.func92, Tryz.ntmps92
  go_wp2_with fail
  refine (HLT.out _).mono ?_
  rintro e1 w1 ⟨rfl, rfl⟩
  rw [← HWQ.out]
  go_wp2_with fail
  go_loopw [3, 4] (fun s i wr => ∃ (m : Nat) (t : List UInt8), i = .int .i64 m ∧ s = .string ⟨t.toArray⟩ ∧ m ≤ zs.length ∧ t.length ≤ 1 + 11 * m ∧ Hid (t = letT kd :: wrdsT (zs.take m)) ∧ Hid (Below W.heap.size W wr)) (fun _ i _ => zs.length - (intOf i).toNat)
  case atStart => exact ⟨0, [letT kd], rfl, rfl, by simp, by simp, by show _ = _; simp [wrdsT], Below.refl _ _⟩
  case round =>
    obtain ⟨m, t, rfl, rfl, hm, ht, HT, HB⟩ := hrel
    have hlW : w.heap.size < W.heap.size := (Array.getElem?_eq_some_iff.1 HBX.out).1
    have hb1 := (HB.out.block _ hlW).trans HBX.out
    have p1 : wr.cell? ⟨w.heap.size, 1, none⟩ = some (.slice ao zs.length c) := cell_of_row wr _ 1 _ _ _ hb1
    have lw : w.heap.size < wr.heap.size := (Array.getElem?_eq_some_iff.1 hb1).1
    clear hb1
    by_cases hlt : m < zs.length
    · obtain ⟨b, o, rfl, hbl, hz⟩ := HR.out m hlt
      have x0 : wr.cell? ⟨b, o + m, none⟩ = _ := (HB.out.cell (by exact Nat.lt_of_lt_of_le hbl HBW.out.size)).trans ((HBW.out.cell (by exact hbl)).trans hz)
      have lb : b < wr.heap.size := Nat.lt_of_lt_of_le (Nat.lt_of_lt_of_le hbl HBW.out.size) HB.out.size
      have HSN := hid (wrdsT_snoc hlt)
      have hzm := HZ.out _ (getD_mem hlt)
      rw [← getD_get hlt] at HSN
      generalize zs.getD m 0 = z at *
      have hdl := decT_len hzm.1 hzm.2
      have im : (0 : Int) ≤ (m : Int) := by omega
      have jm : (m : Int) < (zs.length : Int) := by omega
      have HIT : Hid (∀ W', Below wr.heap.size wr W' → Calls Tryz.prog 151 #[.int .i64 z] W' fun e w' => e = .returned (.string ⟨(decT z).toArray⟩) ∧ Below W'.heap.size W' w') := fun W' hW' => itoaT_any B z W' (HTB.out.on ((HBW.out.trans (HB.out.mono HBW.out.size)).trans (hW'.mono (Nat.le_trans HBW.out.size HB.out.size))) hB) hzm.1 hzm.2
      clear hz
      go_wp2_with fail
      refine (HIT.out _ (Below.refl _ _)).mono ?_
      rintro e2 w2 ⟨rfl, hb2⟩
      have HB2 : Hid (Below W.heap.size W w2) := HB.out.trans (hb2.mono HB.out.size)
      clear hb2 HIT
      go_wp2_with fail
      go_roundw
      case rel =>
        refine ⟨m + 1, t ++ (32 :: decT z), by go_num, ?_, by omega, ?_, ?_, HB2⟩
        · show Value.string _ = Value.string _
          first | rfl | (congr 1; done) | (congr 1; apply ByteArray.ext; simp [ByteArray.data_append])
        · simp; omega
        · show _ = _; rw [HSN.out, HT.out]; simp
      case measure => simp [intOf]; omega
    · have HE : Hid (t ++ [10] = lineT (kd, zs)) := by
        show _ = _
        rw [HLN.out, HT.out, List.take_of_length_le (by omega)]
      go_wp2_with fail
      go_ret
      refine ⟨retS ?_, HBW.out.trans (HB.out.mono HBW.out.size)⟩
      rw [← HE.out]; apply ByteArray.ext; simp [ByteArray.data_append]

set_option maxRecDepth 100000 in
set_option maxHeartbeats 8000000 in
theorem twrite_any (B : Nat) (L : List NodeT) (v : Value) (w : World) (hT : TabX B w) (hB : B ≤ w.heap.size) (hL : L.length ≤ 100000000000) (hl : ∀ nd ∈ L, nd.2.length ≤ 2000000) (hr : TreeO w v L) :
    Calls Tryz.prog 42 #[v] w fun e w' => e = .returned (.tuple #[.string ⟨(writeT L).1.toArray⟩, .int .i64 (writeT L).2]) ∧ Below w.heap.size w w' := by
  obtain ⟨i0, hi, hz0, hz1, hz2⟩ := info_parts Tryz.infoU8
  have HIS := hid (isTree_any L v w hL hl hr)
  have HR := hid hr
  have HTB := hid hT
  have HWR : Hid (writeT L = if treeT 1 L = true then (textT L, 0) else ([], 14)) := rfl
  have HTN : Hid (treeT 1 L = true → ∀ nd ∈ L, nodeOkT nd = true) := fun h => tree_nodes L 1 h
  obtain ⟨ao, c, rfl, _⟩ := hr
  generalize writeT L = ans at *
  generalize treeT 1 L = bt at *
  clear hl hT
  cases bt with
  | false =>
    rw [if_neg (by simp)] at HWR
    go_enter Tryz.func42, Tryz.ntmps42
    go_wp2_with fail
    refine HIS.out.mono ?_
    rintro e1 w1 ⟨rfl, hb1⟩
    have HB1 := hid hb1
    clear hb1 HIS
    go_wp2_with fail
    refine bodyPost_ret (v := .tuple #[.string ⟨#[]⟩, .int .i64 14]) (by simp [results, Tryz.results42, go_sem]) rfl ?_
    exact ⟨by rw [HWR.out], HB1.out⟩
  | true =>
    rw [if_pos rfl] at HWR
    have HOKN := hid (HTN.out rfl)
    clear HTN
    go_enter Tryz.func42, Tryz.ntmps42
    go_wp2_with fail
    refine HIS.out.mono ?_
    rintro e1 w1 ⟨rfl, hb1⟩
    have HB1 := hid hb1
    clear hb1 HIS
    go_wp2_with fail
    go_loopw [4, 5] (fun ov i wr => ∃ (k : Nat) (t : List UInt8), i = .int .i64 k ∧ k ≤ L.length ∧ t.length ≤ 230 * k ∧ Hid (t = textT (L.take k)) ∧ Hid (wr.ownsRow w.heap.size 5 1 ov t.length (Lib.strCells ⟨t.toArray⟩)) ∧ Hid (Below w.heap.size w wr)) (fun _ i _ => L.length - (intOf i).toNat)
    case atStart => exact ⟨0, [], rfl, Nat.zero_le _, by simp, rfl, World.ownsRow_nil _ _ _ _, HB1⟩
    case round =>
      obtain ⟨k, t, rfl, hk, htl, HT, HO, HB⟩ := hrel
      obtain ⟨av, cv, rfl, _, _⟩ := own_val HO.out
      by_cases hlt : k < L.length
      · obtain ⟨ao', c', hv, hz⟩ := HR.out.below HB.out
        cases hv
        obtain ⟨b, off, ai, ci, rfl, hbl, x0, x1, hli⟩ := hz k hlt
        have HTX := hid (text_snoc hlt)
        have hnk := HOKN.out _ (List.getElem_mem hlt)
        generalize L[k] = nd at *
        have hll := line_len hnk
        have HLO := hid (tlineOf_any B nd _ wr (HTB.out.on HB.out hB) (Nat.le_trans hB HB.out.size) hnk hli)
        generalize lineT nd = ln at *
        have ik : (0 : Int) ≤ (k : Int) := by omega
        have jk : (k : Int) < (L.length : Int) := by omega
        clear hz hli hnk
        go_wp2_with fail
        refine HLO.out.mono ?_
        rintro e3 w3 ⟨rfl, hb3⟩
        have HB3 : Hid (Below w.heap.size w w3) := HB.out.trans (hb3.mono HB.out.size)
        have HO3 := hid (own_below HO.out hb3)
        have hz3 := HB3.out.size
        clear hb3 HLO
        go_wp2_with (at_builtin; refine Lib.wpList_append_own_string _ rfl _ _ 144 9 rfl w.heap.size 5 i0 Tryz.underlying144 Tryz.underlying9 hi hz0 hz1 hz2 _ _ _ rfl HO3.out ⟨ln.toArray⟩ rfl ?c1 ?c2 ?c3 ?_)
        case c1 => unfold maxLen; have : (⟨ln.toArray⟩ : ByteArray).size = ln.length := by simp [ByteArray.size]
                   omega
        case c2 => have : (⟨ln.toArray⟩ : ByteArray).size = ln.length := by simp [ByteArray.size]
                   omega
        case c3 => exact hz3
        intro v5 w5 hown5 hgr5 _
        have HO5 : Hid (w5.ownsRow w.heap.size 5 1 v5 (t ++ ln).length (Lib.strCells ⟨(t ++ ln).toArray⟩)) := by
          show World.ownsRow _ _ _ _ _ _ _
          rw [str_app, List.length_append, show ln.length = (⟨ln.toArray⟩ : ByteArray).size by simp [ByteArray.size]]; exact hown5
        have HB5 : Hid (Below w.heap.size w w5) := HB3.out.grown hgr5 hz3 (fun q hq => (HO3.out.lt q hq).1)
        have HT5 : Hid (t ++ ln = textT (L.take (k + 1))) := by show _ = _; rw [HTX.out, HT.out]
        clear hown5 hgr5
        go_wp2
        go_roundw
        case rel => exact ⟨k + 1, t ++ ln, by go_num, by omega, by simp; omega, HT5, HO5, HB5⟩
        case measure => simp [intOf]; omega
      · have kc := conv_own HO.out
        have HA : Hid (ans = (t, 0)) := by show _ = _; rw [HWR.out, HT.out, List.take_of_length_le (by omega)]
        go_wp2_with fail
        refine bodyPost_ret (v := .tuple #[.string ⟨t.toArray⟩, .int .i64 0]) (by simp [results, Tryz.results42, go_sem]) rfl ?_
        exact ⟨by rw [HA.out], HB.out⟩

end Go.Proofs.YtebinaopncclgabGreatDoor
namespace Go.Proofs.YtebinaopncclgabGreatDoor
open Go.RowKit Go.IntWalk

theorem dec_dig {s : Nat} (h : s ≤ 9) : decT (s : Int) = [UInt8.ofNat (48 + s)] := by
  have : s = 0 ∨ s = 1 ∨ s = 2 ∨ s = 3 ∨ s = 4 ∨ s = 5 ∨ s = 6 ∨ s = 7 ∨ s = 8 ∨ s = 9 := by omega
  rcases this with rfl | rfl | rfl | rfl | rfl | rfl | rfl | rfl | rfl | rfl <;> decide
theorem rt_go {bh : Nat → Nat} {f s : Nat} (h : s ≠ 0) : rtQ bh (f + 1) s = s :: rtQ bh f (bh s) := by
  show (if s = 0 then [] else s :: rtQ bh f (bh s)) = _
  rw [if_neg h]
theorem rt_end {bh : Nat → Nat} {f s : Nat} (h : s = 0 ∨ f = 0) : rtQ bh f s = [] := by
  cases f with
  | zero => rfl
  | succ f =>
    show (if s = 0 then [] else s :: rtQ bh f (bh s)) = _
    rw [if_pos (by omega)]
theorem rt_len (bh : Nat → Nat) : ∀ f s, (rtQ bh f s).length ≤ f := by
  intro f
  induction f with
  | zero => intro s; exact Nat.le_refl _
  | succ f ih =>
    intro s
    show (if s = 0 then [] else s :: rtQ bh f (bh s)).length ≤ _
    split
    · simp
    · have := ih (bh s); simp; omega
theorem digB_len (l : List Nat) : (digB l).length = l.length := by simp [digB]

def strN : Value → Nat
  | .string s => s.size
  | _ => 0
set_option maxRecDepth 100000 in
set_option maxHeartbeats 4000000 in
theorem sroute_any (B t n f : Nat) (bh : Nat → Nat) (fs : List Nat) (w : World) (hT : TabX B w) (hB : B ≤ w.heap.size) (hn : n ≤ 7) (hf : f ≤ n) (hr : ∀ s, 1 ≤ s → s ≤ n → bh s ≤ n) (ht : TourO w t n bh fs) :
    Calls Tryz.prog 194 #[.pointer (some ⟨t, 0, none⟩), .int .i64 f] w fun e w' => e = .returned (.string ⟨(digB (rtQ bh 7 f)).toArray⟩) ∧ Below w.heap.size w w' := by
  have HTO := hid ht
  have HTB := hid hT
  have HR := hid hr
  clear ht hT hr
  go_enter Tryz.func194, Tryz.ntmps194
  go_wp2_with fail
  go_loopw [5, 6] (fun tv sv wr => ∃ (s : Nat) (acc : List Nat) (u : List UInt8), tv = .string ⟨u.toArray⟩ ∧ sv = .int .i64 s ∧ s ≤ n ∧ u.length ≤ 7 ∧ Hid (u = digB acc) ∧ Hid (rtQ bh 7 f = acc ++ rtQ bh (7 - u.length) s) ∧ Hid (Below w.heap.size w wr)) (fun tv _ _ => 7 - strN tv)
  case atStart => exact ⟨f, [], [], rfl, rfl, hf, by simp, rfl, rfl, Below.refl _ _⟩
  case round =>
    obtain ⟨s, acc, u, rfl, rfl, hs, hu, HU, HE, HB⟩ := hrel
    by_cases hs0 : s = 0
    · have e0 : ((s : Int) != 0) = false := by simp [hs0]
      have HF : Hid (digB (rtQ bh 7 f) = u) := by show _ = _; rw [HE.out, rt_end (.inl hs0), List.append_nil, HU.out]
      clear hs0 HE
      go_wp2_with fail
      go_ret
      refine ⟨?_, HB.out⟩
      rw [HF.out]; rfl
    · have e0 : ((s : Int) != 0) = true := by simpa using hs0
      by_cases h7 : u.length < 7
      · have x0 := (HTO.out.below HB.out).behind (by omega) hs hn
        have lt := (HTO.out.below HB.out).lt
        have hbn := HR.out s (by omega) hs
        have HIT := hid (itoaT_any B s wr (HTB.out.on HB.out hB) (by omega) (by omega))
        rw [dec_dig (by omega)] at HIT
        have is : (0 : Int) ≤ (s : Int) := by omega
        have js : (s : Int) < 8 := by omega
        have HE2 : Hid (rtQ bh 7 f = (acc ++ [s]) ++ rtQ bh (7 - (u.length + 1)) (bh s)) := by
          show _ = _
          rw [HE.out, show 7 - u.length = (7 - (u.length + 1)) + 1 by omega, rt_go hs0]; simp
        have HU2 : Hid (u ++ [UInt8.ofNat (48 + s)] = digB (acc ++ [s])) := by show _ = _; rw [HU.out]; simp [digB]
        clear hs0 HE HU
        go_wp2_with fail
        refine HIT.out.mono ?_
        rintro e2 w2 ⟨rfl, hb2⟩
        have x2 : w2.cell? ⟨t, 1 + s, none⟩ = _ := (hb2.cell (by exact lt)).trans x0
        have l2 : t < w2.heap.size := Nat.lt_of_lt_of_le lt hb2.size
        have HB2 : Hid (Below w.heap.size w w2) := HB.out.trans (hb2.mono HB.out.size)
        clear hb2 HIT x0
        go_wp2_with go_in
        go_roundw
        case rel =>
          refine ⟨bh s, acc ++ [s], u ++ [UInt8.ofNat (48 + s)], ?_, rfl, hbn, by simp; omega, HU2, ?_, HB2⟩
          · show Value.string _ = Value.string _
            first | rfl | (congr 1; done) | (congr 1; apply ByteArray.ext; simp [ByteArray.data_append])
          · show _ = _; rw [List.length_append]; exact HE2.out
        case measure => simp [strN, ByteArray.size]; omega
      · have HF : Hid (digB (rtQ bh 7 f) = u) := by show _ = _; rw [HE.out, rt_end (.inr (by omega)), List.append_nil, HU.out]
        clear hs0 HE
        go_wp2_with fail
        go_ret
        refine ⟨?_, HB.out⟩
        rw [HF.out]; rfl

set_option maxRecDepth 100000 in
set_option maxHeartbeats 4000000 in
theorem tplan_any (B t n : Nat) (bh : Nat → Nat) (fs : List Nat) (w : World) (hT : TabX B w) (hB : B ≤ w.heap.size) (hn : n ≤ 7) (hf : ∀ f ∈ fs, f ≤ n) (hf3 : fs.length ≤ 3) (hr : ∀ s, 1 ≤ s → s ≤ n → bh s ≤ n) (ht : TourO w t n bh fs) :
    Calls Tryz.prog 142 #[.pointer (some ⟨t, 0, none⟩)] w fun e w' => e = .returned (.string ⟨(planB (fs.map (rtQ bh 7))).toArray⟩) ∧ Below w.heap.size w w' := by
  have HTO := hid ht
  have HRT : Hid (∀ (W : World) (f : Nat), f ≤ n → Below w.heap.size w W → Calls Tryz.prog 194 #[.pointer (some ⟨t, 0, none⟩), .int .i64 f] W fun e w' => e = .returned (.string ⟨(digB (rtQ bh 7 f)).toArray⟩) ∧ Below W.heap.size W w') := fun W f h1 hW => sroute_any B t n f bh fs W (hT.on hW hB) (Nat.le_trans hB hW.size) hn h1 hr (ht.below hW)
  have HFN : Hid (∀ k, k < fs.length → fs.getD k 0 ≤ n) := fun k hk => hf _ (by rw [List.getD_eq_getElem?_getD, List.getElem?_eq_getElem hk]; exact List.getElem_mem _)
  clear ht hT hr hf
  go_enter Tryz.func142, Tryz.ntmps142
  go_wp2_with fail
  go_loopw [3, 4] (fun tv i wr => ∃ (k : Nat) (u : List UInt8), tv = .string ⟨u.toArray⟩ ∧ i = .int .i64 k ∧ k ≤ fs.length ∧ u.length ≤ 8 * k ∧ Hid (u = planB ((fs.take k).map (rtQ bh 7))) ∧ Hid (Below w.heap.size w wr)) (fun _ i _ => fs.length - (intOf i).toNat)
  case atStart => exact ⟨0, [], rfl, rfl, Nat.zero_le _, by simp, rfl, Below.refl _ _⟩
  case round =>
    obtain ⟨k, u, rfl, rfl, hk, hu, HU, HB⟩ := hrel
    obtain ⟨vf, h1, h2⟩ := (HTO.out.below HB.out).at_
    have c9 := h1.c9
    have lt := h1.lt
    have HV := hid h2
    obtain ⟨av, cv, rfl, _, _⟩ := own_val h2
    clear h1 h2
    by_cases hlt : k < fs.length
    · obtain ⟨q, capq, curq, hcv, _, _, _⟩ := own_shape HV.out (by omega)
      cases hcv
      have x0 : wr.cell? ⟨q, k, none⟩ = some (.int .i64 (fs.getD k 0 : Nat)) := by
        rw [HV.out.cellAt k (by omega)]
        have hm' : k < (zL fs).length := by rw [zL_len]; omega
        simp only [ints, List.getElem?_map, List.getElem?_eq_getElem hm', Option.map_some]
        rw [← zL_get, List.getD_eq_getElem?_getD, List.getElem?_eq_getElem hm', Option.getD_some]
      have lq : q < wr.heap.size := (HV.out.lt q rfl).2
      have HT : Hid (planB ((fs.take (k + 1)).map (rtQ bh 7)) = planB ((fs.take k).map (rtQ bh 7)) ++ (if k = 0 then [] else [47]) ++ digB (rtQ bh 7 (fs.getD k 0))) := by
        show _ = _
        have e1 : fs.take (k + 1) = fs.take k ++ [fs.getD k 0] := by rw [List.take_succ_eq_append_getElem hlt, List.getD_eq_getElem?_getD, List.getElem?_eq_getElem hlt]; rfl
        rw [e1, List.map_append]
        show planB ((fs.take k).map (rtQ bh 7) ++ [rtQ bh 7 (fs.getD k 0)]) = _
        rw [planB_snoc]
        congr 2
        by_cases h0 : k = 0
        · rw [if_pos h0, if_pos (by rw [h0]; simp)]
        · rw [if_neg h0, if_neg]
          intro e
          have := congrArg List.length e
          rw [List.length_map, List.length_take, List.length_nil] at this
          omega
      have hfk := HFN.out k hlt
      have hdl : (digB (rtQ bh 7 (fs.getD k 0))).length ≤ 7 := by rw [digB_len]; exact rt_len _ _ _
      have HC := hid (fun W hW => HRT.out W (fs.getD k 0) hfk hW)
      generalize fs.getD k 0 = f at *
      generalize digB (rtQ bh 7 f) = d at *
      have ik : (0 : Int) ≤ (k : Int) := by omega
      have jk : (k : Int) < (fs.length : Int) := by omega
      by_cases h0 : k = 0
      · rw [if_pos h0, List.append_nil] at HT
        have e0 : ¬ 0 < k := by omega
        clear h0
        go_wp2_with fail
        refine (HC.out _ (by first | exact HB.out | exact HB.out.drew)).mono ?_
        rintro e2 w2 ⟨rfl, hb2⟩
        have HB2 : Hid (Below w.heap.size w w2) := HB.out.trans (hb2.mono HB.out.size)
        clear hb2 HC
        go_wp2_with fail
        go_roundw
        case rel =>
          refine ⟨k + 1, u ++ d, ?_, by go_num, by omega, by simp; omega, ?_, HB2⟩
          · show Value.string _ = Value.string _
            first | rfl | (congr 1; done) | (congr 1; apply ByteArray.ext; simp [ByteArray.data_append])
          · show _ = _; rw [HT.out, HU.out]
        case measure => simp [intOf]; omega
      · rw [if_neg h0] at HT
        have e0 : 0 < k := by omega
        clear h0
        go_wp2_with fail
        refine (HC.out _ (by first | exact HB.out | exact HB.out.drew)).mono ?_
        rintro e2 w2 ⟨rfl, hb2⟩
        have HB2 : Hid (Below w.heap.size w w2) := HB.out.trans (hb2.mono HB.out.size)
        clear hb2 HC
        go_wp2_with fail
        go_roundw
        case rel =>
          refine ⟨k + 1, u ++ [47] ++ d, ?_, by go_num, by omega, by simp; omega, ?_, HB2⟩
          · show Value.string _ = Value.string _
            first | rfl | (congr 1; done) | (congr 1; apply ByteArray.ext; simp [ByteArray.data_append])
          · show _ = _; rw [HT.out, HU.out]
        case measure => simp [intOf]; omega
    · have HF : Hid (planB (fs.map (rtQ bh 7)) = u) := by show _ = _; rw [HU.out, List.take_of_length_le (by omega)]
      go_wp2_with fail
      go_ret
      refine ⟨?_, HB.out⟩
      rw [HF.out]; rfl
end Go.Proofs.YtebinaopncclgabGreatDoor
namespace Go.Proofs.YtebinaopncclgabGreatDoor
open Go.RowKit Go.IntWalk

theorem walk_same {w0 w w' : World} {p : Nat} {r : Rd} {ex : Nat → Option Value} {P : PathT} {vs vf vf2 : Value} (hw : WalkG w0 w p r ex P vs vf vf2) (hp : w'.heap[p]? = w.heap[p]?) (ha : ∀ va, w.cell? ⟨p, 74, none⟩ = some va → ∀ q, va.ownBlock = some q → w'.heap[q]? = w.heap[q]?) (hb : Below p w w') : WalkG w0 w' p r ex P vs vf vf2 := by
  have hc : ∀ o, w'.cell? ⟨p, o, none⟩ = w.cell? ⟨p, o, none⟩ := fun o => World.cell?_of_block (a := ⟨p, o, none⟩) hp
  obtain ⟨va, g1, g2⟩ := hw.above
  obtain ⟨cs, ty, hbox⟩ := hw.arcs.box
  exact ⟨hw.size, hw.below.trans hb, (hc _).trans hw.c0, (hc _).trans hw.c1, (hc _).trans hw.c2, (hc _).trans hw.c5, (hc _).trans hw.c7, ⟨⟨cs, ty, hp.trans hbox⟩, (hc _).trans hw.arcs.c0, (hc _).trans hw.arcs.c1, fun a b h1 h2 => (hc _).trans (hw.arcs.said a b h1 h2)⟩, ⟨va, (hc _).trans g1, own_other g2 (ha va g1)⟩, fun k u h1 h2 => (hc _).trans (hw.rest k u h1 h2)⟩
/- a list of nodes grows -/
theorem walk_grown {w0 w X w' : World} {p n : Nat} {r : Rd} {ex : Nat → Option Value} {P : PathT} {vs vf vf2 v : Value} {xs : List Value} (hw : WalkG w0 w p r ex P vs vf vf2) (hX : Below w.heap.size w X) (hv : w.ownsRow (p + 1) 76 2 v n xs) (hg : X.grownBy w' v.ownBlock) : WalkG w0 w' p r ex P vs vf vf2 := by
  have hw1 := hw.mv hX
  have hp := hw.arcs.lt
  have hpX : p < X.heap.size := Nat.lt_of_lt_of_le hp hX.size
  obtain ⟨va, g1, g2⟩ := hw1.above
  have hv1 := own_below hv hX
  refine walk_same hw1 (hg.block p hpX (fun h => by have := (hv1.lt p h.symm).1; omega)) (fun va' h1 q hq => ?_) ?_
  · rw [g1] at h1
    cases h1
    refine hg.block q (g2.lt q hq).2 (fun h => ?_)
    rcases own_ne hv1 g2 (by decide) with h3 | h3
    · rw [h3] at h; cases h
    · exact h3 (h.symm.trans hq.symm)
  · exact (Below.refl p X).grown hg (Nat.le_of_lt hpX) (fun q hq => by have := (hv1.lt q hq).1; omega)
/- the cells of the search behind its place -/
def exS (vl : Value) (I : Ins) (fc : Option RoutesQ) (k : Nat) : Option Value :=
  if k = 75 then some vl else if k = 76 then some (.bool fc.isSome) else if k = 77 then some (.string ⟨(planV fc).toArray⟩) else if k = 78 then some (.int .i64 (costV I fc)) else none
abbrev SearchAt (w0 w : World) (p : Nat) (r : Rd) (vl : Value) (fc : Option RoutesQ) (P : PathT) (vs vf vf2 : Value) : Prop := WalkG w0 w p r (exS vl (insOf r (siteD r)) fc) P vs vf vf2
theorem search_list {w0 w : World} {p : Nat} {r : Rd} {vl : Value} {fc : Option RoutesQ} {P : PathT} {vs vf vf2 : Value} (h : SearchAt w0 w p r vl fc P vs vf vf2) : w.cell? ⟨p, 75, none⟩ = some vl := h.rest 75 _ (by omega) rfl
theorem search_found {w0 w : World} {p : Nat} {r : Rd} {vl : Value} {fc : Option RoutesQ} {P : PathT} {vs vf vf2 : Value} (h : SearchAt w0 w p r vl fc P vs vf vf2) : w.cell? ⟨p, 76, none⟩ = some (.bool fc.isSome) := h.rest 76 _ (by omega) rfl
theorem search_plan {w0 w : World} {p : Nat} {r : Rd} {vl : Value} {fc : Option RoutesQ} {P : PathT} {vs vf vf2 : Value} (h : SearchAt w0 w p r vl fc P vs vf vf2) : w.cell? ⟨p, 77, none⟩ = some (.string ⟨(planV fc).toArray⟩) := h.rest 77 _ (by omega) rfl
theorem search_cost {w0 w : World} {p : Nat} {r : Rd} {vl : Value} {fc : Option RoutesQ} {P : PathT} {vs vf vf2 : Value} (h : SearchAt w0 w p r vl fc P vs vf vf2) : w.cell? ⟨p, 78, none⟩ = some (.int .i64 (costV (insOf r (siteD r)) fc)) := h.rest 78 _ (by omega) rfl
theorem search_push {w0 w : World} {p : Nat} {r : Rd} {vl : Value} {fc : Option RoutesQ} {P : PathT} {vs vf vf2 : Value} (h : SearchAt w0 w p r vl fc P vs vf vf2) (v : Value) : SearchAt w0 (w.setCell ⟨p, 75, none⟩ v) p r v fc P vs vf vf2 := by
  refine walk_ex (walk_putk h (k := 75) (by omega) rfl v) (fun k u hk => ?_)
  unfold exS at hk
  unfold exPut
  by_cases e1 : k = 75
  · rw [if_pos e1] at hk; rw [if_pos e1]; exact hk
  · rw [if_neg e1] at hk; rw [if_neg e1]; unfold exS; rw [if_neg e1]; exact hk
theorem search_take {w0 w : World} {p : Nat} {r : Rd} {vl : Value} {fc : Option RoutesQ} {P : PathT} {vs vf vf2 : Value} (h : SearchAt w0 w p r vl fc P vs vf vf2) (R : RoutesQ) :
    SearchAt w0 (((w.setCell ⟨p, 76, none⟩ (.bool true)).setCell ⟨p, 77, none⟩ (.string ⟨(planB R).toArray⟩)).setCell ⟨p, 78, none⟩ (.int .i64 (costQ (insOf r (siteD r)) R))) p r vl (some R) P vs vf vf2 := by
  refine walk_ex (walk_putk (walk_putk (walk_putk h (k := 76) (by omega) rfl (.bool true)) (k := 77) (by omega) rfl (.string ⟨(planB R).toArray⟩)) (k := 78) (by omega) rfl (.int .i64 (costQ (insOf r (siteD r)) R))) (fun k u hk => ?_)
  unfold exS at hk
  unfold exPut
  by_cases e1 : k = 75
  · subst e1; exact hk
  · rw [if_neg e1] at hk
    by_cases e2 : k = 76
    · subst e2; exact hk
    · rw [if_neg e2] at hk
      by_cases e3 : k = 77
      · subst e3; exact hk
      · rw [if_neg e3] at hk
        by_cases e4 : k = 78
        · subst e4; exact hk
        · rw [if_neg e4] at hk; cases hk
end Go.Proofs.YtebinaopncclgabGreatDoor
namespace Go.Proofs.YtebinaopncclgabGreatDoor
open Go.RowKit Go.IntWalk

theorem row_ints {w : World} {g n : Nat} {f : Nat → Int} (h : RowAt w g n f) : ∀ j u, (ints ((List.range n).map f))[j]? = some u → w.cell? ((⟨g, 0, none⟩ : Addr).add j) = some u := fun j u hu => by
  have hj : j < n := by
    have := (List.getElem?_eq_some_iff.1 hu).1
    simpa [ints] using this
  have hadd : (⟨g, 0, none⟩ : Addr).add j = ⟨g, j, none⟩ := by unfold Addr.add; split <;> simp_all
  rw [hadd, h.cell hj, ← hu]
  simp [ints, List.getElem?_range hj]
theorem ints_one {l : List Int} : ∀ u ∈ ints l, u.oneCell' = true := fun u hu => by
  simp only [ints, List.mem_map] at hu; obtain ⟨z, _, rfl⟩ := hu; rfl
set_option maxRecDepth 100000 in
set_option maxHeartbeats 4000000 in
theorem duals_any (N g1 g2 g3 : Nat) (u v : Nat → Int) (cost : Int) (w : World) (hN : N ≤ 10) (h2 : RowAt w g2 N u) (h3 : RowAt w g3 N v) :
    Calls Tryz.prog 139 #[.agg #[.bool true, .int .i64 cost, .slice (some ⟨g1, 0, none⟩) N N, .slice (some ⟨g2, 0, none⟩) N N, .slice (some ⟨g3, 0, none⟩) N N, .slice none 0 0]] w fun e w' => ∃ x, e = .returned (.agg #[.int .i64 2, x]) ∧ w'.ownsRow w.heap.size 3 1 x (dualN N u v).2.length (ints (dualN N u v).2) ∧ Below w.heap.size w w' := by
  obtain ⟨i0, hi, hz0, hz1, hz2⟩ := info_parts Tryz.infoInt
  obtain ⟨W1, hW1⟩ : ∃ W1, W1 = w.alloc (.cells #[.bool true, .int .i64 cost, .slice (some ⟨g1, 0, none⟩) N N, .slice (some ⟨g2, 0, none⟩) N N, .slice (some ⟨g3, 0, none⟩) N N, .slice none 0 0] 125) := ⟨_, rfl⟩
  have hz1' : W1.heap.size = w.heap.size + 1 := by rw [hW1]; simp
  obtain ⟨W, hW⟩ : ∃ W, W = W1.alloc (.cells #[.int .i64 0, .slice none 0 0] 76) := ⟨_, rfl⟩
  have hb1 : Below w.heap.size w W1 := by rw [hW1]; exact below1 w _
  have hb2 : Below W1.heap.size W1 W := by rw [hW]; exact below1 W1 _
  have hbx1 : W1.heap[w.heap.size]? = some (.cells #[.bool true, .int .i64 cost, .slice (some ⟨g1, 0, none⟩) N N, .slice (some ⟨g2, 0, none⟩) N N, .slice (some ⟨g3, 0, none⟩) N N, .slice none 0 0] 125 (0, 0)) := by rw [hW1]; exact heap_alloc_new w _
  have hbx := (hb2.block _ (by omega)).trans hbx1
  have hbr : W.heap[w.heap.size + 1]? = some (.cells #[.int .i64 0, .slice none 0 0] 76 (0, 0)) := by rw [hW, ← hz1']; exact heap_alloc_new W1 _
  have hbW : Below w.heap.size w W := hb1.trans (hb2.mono (by omega))
  have hzW : W.heap.size = w.heap.size + 2 := by rw [hW]; simp [hz1']
  have HBW := hid hbW
  have HBX := hid hbx
  have HBR := hid hbr
  have HR2 := hid (h2.block (hbW.block _ h2.lt))
  have HR3 := hid (h3.block (hbW.block _ h3.lt))
  obtain ⟨zl, _, _, _, d3, d4, _, _⟩ := six_at hbx
  have HWQ := hid hW
  have HWQ1 := hid hW1
  clear hbW hbx hW h2 h3 hb1 hb2 hbx1 hW1 hbr
  go_enter Tryz.func139, Tryz.ntmps139
  go_wp2_with (at_builtin; rw [← HWQ1.out, ← HWQ.out]; refine wpList_append_own _ rfl _ _ 40 rfl (w.heap.size + 2) 3 i0 (.int .i64 0) 1 8 Tryz.underlying40 hi hz0 hz1 hz2 rfl (by decide) _ 0 [] rfl (World.ownsRow_nil _ _ _ _) ⟨g2, 0, none⟩ N N (ints ((List.range N).map u)) rfl ?b0 ?b1 ?b2 ?b3 ?b4 ?b5 ?_)
  case b0 => simp [ints]
  case b1 => exact row_ints HR2.out
  case b2 => exact ints_one
  case b3 => unfold maxLen; omega
  case b4 => omega
  case b5 => omega
  intro v1 w1 hown1 hgr1 _
  have HO1 : Hid (w1.ownsRow (w.heap.size + 2) 3 1 v1 N (ints ((List.range N).map u))) := by
    show World.ownsRow _ _ _ _ _ _ _
    first | exact hown1 | (rw [Nat.zero_add, List.nil_append] at hown1; exact hown1)
  have hb1 : Below W.heap.size W w1 := (Below.refl _ W).grown hgr1 (Nat.le_refl _) (fun x hx => by cases hx)
  have HB1 := hid hb1
  have HR3' := hid (HR3.out.block (hb1.block _ HR3.out.lt))
  have e4 : w1.cell? ⟨w.heap.size, 4, none⟩ = _ := (hb1.cell (by show w.heap.size < _; omega)).trans d4
  have l1 : w.heap.size < w1.heap.size := by have := hb1.size; omega
  have hs1 : w.heap.size + 2 ≤ w1.heap.size := by have := hb1.size; omega
  have HBR1 := hid ((hb1.block _ (by omega)).trans HBR.out)
  obtain ⟨a1, c1, rfl, _, _⟩ := own_val HO1.out
  clear hown1 hgr1 hb1 d3 d4 HR2
  go_wp2_with (at_builtin; refine wpList_append_own _ rfl _ _ 40 rfl (w.heap.size + 2) 3 i0 (.int .i64 0) 1 8 Tryz.underlying40 hi hz0 hz1 hz2 rfl (by decide) _ N (ints ((List.range N).map u)) rfl HO1.out ⟨g3, 0, none⟩ N N (ints ((List.range N).map v)) rfl ?b0 ?b1 ?b2 ?b3 ?b4 ?b5 ?_)
  case b0 => simp [ints]
  case b1 => exact row_ints HR3'.out
  case b2 => exact ints_one
  case b3 => unfold maxLen; omega
  case b4 => omega
  case b5 => omega
  intro v2 w2 hown2 hgr2 _
  have HO2 : Hid (w2.ownsRow (w.heap.size + 2) 3 1 v2 (N + N) (ints ((List.range N).map u ++ (List.range N).map v))) := by
    show World.ownsRow _ _ _ _ _ _ _
    rw [ints_append]; exact hown2
  have HB2 : Hid (Below (w.heap.size + 2) W w2) := (show Below (w.heap.size + 2) W w1 by have h := HB1.out; rw [hzW] at h; exact h).grown hgr2 hs1 (fun x hx => (HO1.out.lt x hx).1)
  have hbr2 := (HB2.out.block (w.heap.size + 1) (by omega)).trans HBR.out
  have l2 : w.heap.size + 1 < w2.heap.size := (Array.getElem?_eq_some_iff.1 hbr2).1
  have r0 : w2.cell? ⟨w.heap.size + 1, 0, none⟩ = _ := cell_of_row w2 _ 0 _ _ _ hbr2
  have r1 : w2.cell? ⟨w.heap.size + 1, 1, none⟩ = _ := cell_of_row w2 _ 1 _ _ _ hbr2
  have f0 := frozen_of_row w2 (w.heap.size + 1) 0 _ _ hbr2
  have f1 := frozen_of_row w2 (w.heap.size + 1) 1 _ _ hbr2
  obtain ⟨a2, c2, rfl, _, _⟩ := own_val HO2.out
  clear hown2 hgr2 hbr2 e4 HBR1
  go_wp2_with fail
  refine bodyPost_ret (v := .agg #[.int .i64 2, .slice a2 (N + N) c2]) (by simp [results, Tryz.results139, go_sem, r0, r1]) rfl ?_
  have hlen : (dualN N u v).2.length = N + N := by simp [dualN]
  refine ⟨_, rfl, ?_, ?_⟩
  · rw [hlen]
    show World.ownsRow _ _ _ _ _ _ (ints ((List.range N).map u ++ (List.range N).map v))
    exact own_base (own_aside (own_aside HO2.out (by omega)) (by omega)) (by omega)
  · have hB : Below w.heap.size w w2 := HBW.out.trans (HB2.out.mono (by omega))
    exact (hB.setCell (by show w.heap.size ≤ w.heap.size + 1; omega) _).setCell (by show w.heap.size ≤ w.heap.size + 1; omega) _
end Go.Proofs.YtebinaopncclgabGreatDoor
namespace Go.Proofs.YtebinaopncclgabGreatDoor
open Go.RowKit Go.IntWalk

theorem planB_len {R : RoutesQ} : (planB R).length ≤ R.flatten.length + R.length := by
  cases R with
  | nil => simp [planB]
  | cons ρ R =>
    have h : ∀ L : RoutesQ, ((L.map fun ρ => 47 :: digB ρ).flatten).length = L.flatten.length + L.length := by
      intro L
      induction L with
      | nil => rfl
      | cons σ L ih => simp only [List.map_cons, List.flatten_cons, List.length_append, List.length_cons, ih]; simp [digB]; omega
    show (digB ρ ++ _).length ≤ _
    rw [List.length_append, h, List.flatten_cons, List.length_append, List.length_cons]
    simp [digB]; omega
theorem kept_set (w : World) (p k : Nat) (u : Value) : KeptB w (w.setCell ⟨p, k, none⟩ u) p := ⟨by simp, fun q _ h => Below.heap_setCell w _ _ q h⟩
set_option maxRecDepth 100000 in
set_option maxHeartbeats 4000000 in
theorem stake_any (w0 w : World) (p : Nat) (r : Rd) (vl : Value) (fc : Option RoutesQ) (P : PathT) (R : RoutesQ) (vs vf vf2 : Value) (hok : RdOk r) (hw : SearchAt w0 w p r vl fc P vs vf vf2) (hs : StR w0 vs r) (hq : SqR w0 vf (r.stops.length + 1) (siteD r)) (hl : (planB R).length ≤ 100)
    (hj1 : PlanQ (insOf r (siteD r)) R → ∃ S, judgeS r (siteD r) (planB R) = (costQ (insOf r (siteD r)) R, some S, 0)) (hj2 : ¬ PlanQ (insOf r (siteD r)) R → (judgeS r (siteD r) (planB R)).2.2 ≠ 0) :
    Calls Tryz.prog 143 #[.pointer (some ⟨p, 0, none⟩), .string ⟨(planB R).toArray⟩] w fun e w' => (PlanQ (insOf r (siteD r)) R → e = .returned (.bool true) ∧ SearchAt w0 w' p r vl (some R) P vs vf vf2 ∧ KeptB w w' p) ∧ (¬ PlanQ (insOf r (siteD r)) R → e = .returned (.bool false) ∧ Below w.heap.size w w') := by
  have hsz : (⟨(planB R).toArray⟩ : ByteArray).size ≤ maxLen := by show (planB R).toArray.size ≤ _; rw [List.size_toArray]; unfold maxLen; omega
  have HJ := hid (ajudge_any p r (siteD r) ⟨(planB R).toArray⟩ vs vf w hsz hok (hw.area hs hq) (site_range hok))
  have hdl : (⟨(planB R).toArray⟩ : ByteArray).data.toList = planB R := by simp
  rw [hdl] at HJ
  have hpl := hw.arcs.lt
  have HW := hid hw
  by_cases hp : PlanQ (insOf r (siteD r)) R
  · obtain ⟨S, hj⟩ := hj1 hp
    rw [hj] at HJ
    have HP := hid hp
    clear hj1 hj2 hw hp hj hdl hs hq hok
    go_enter Tryz.func143, Tryz.ntmps143
    go_wp2_with fail
    refine HJ.out.mono ?_
    rintro e1 w1 ⟨v, rfl, _, hS, hb1⟩
    obtain ⟨ho1, _, _⟩ := hS S rfl
    obtain ⟨a1, c1, rfl, _, _⟩ := own_val ho1
    have HW1 := hid (HW.out.mv hb1)
    have HK : Hid (KeptB w w1 p) := KeptB.of_below hb1
    have f76 := HW1.out.arcs.frozen 76
    have f77 := HW1.out.arcs.frozen 77
    have f78 := HW1.out.arcs.frozen 78
    have c76 := search_found HW1.out
    have c77 := search_plan HW1.out
    have c78 := search_cost HW1.out
    have hpl1 := HW1.out.arcs.lt
    clear hS hb1 HJ HW ho1
    go_wp2_with fail
    go_ret
    exact ⟨fun _ => ⟨rfl, search_take HW1.out R, ((HK.out.trans (kept_set w1 p 76 _)).trans (kept_set _ p 77 _)).trans (kept_set _ p 78 _)⟩, fun h => absurd HP.out h⟩
  · have hj := hj2 hp
    have HP := hid hp
    obtain ⟨x, hx⟩ : ∃ x, x = judgeS r (siteD r) (planB R) := ⟨_, rfl⟩
    rw [← hx] at HJ hj
    obtain ⟨x1, x2, x3⟩ := x
    have b1 : (x3 != 0) = true := by simpa using hj
    clear hj1 hj2 hw hp hj hdl hs hq hok hx
    go_enter Tryz.func143, Tryz.ntmps143
    go_wp2_with fail
    refine HJ.out.mono ?_
    rintro e1 w1 ⟨v, rfl, hN, hS, hb1⟩
    have hv : ∃ a n c, v = .slice a n c := by
      cases x2 with
      | none => exact ⟨none, 0, 0, hN rfl⟩
      | some S => obtain ⟨a, c, h, _, _⟩ := own_val (hS S rfl).1; exact ⟨a, _, c, h⟩
    obtain ⟨a1, n1, c1, rfl⟩ := hv
    have HB := hid hb1
    clear hN hS hb1 HJ HW
    dsimp only
    go_wp2_with fail
    go_ret
    exact ⟨fun h => absurd h HP.out, fun _ => ⟨rfl, HB.out⟩⟩
end Go.Proofs.YtebinaopncclgabGreatDoor
namespace Go.Proofs.YtebinaopncclgabGreatDoor
open Go.RowKit Go.IntWalk

theorem cell_low {r : Rd} (h : RdOk r) (T : Nat → Nat → Int) (N : Nat) : CellOk (r.stops.length + N) (cellQ (insOf r (siteD r)) T) := fun i j _ _ => by
  have := site_short h _ _ (lineN_lt r.stops.length i) (lineN_lt r.stops.length j)
  show -1 ≤ cellS r.stops.length T (siteD r) (lineN r.stops.length i) (lineN r.stops.length j) ∧ cellS r.stops.length T (siteD r) (lineN r.stops.length i) (lineN r.stops.length j) ≤ 200000
  unfold cellS
  split
  · omega
  · split <;> omega
theorem flat_le {k : Nat} : ∀ (L : RoutesQ), (∀ ρ ∈ L, ρ.length ≤ k) → L.flatten.length ≤ k * L.length := by
  intro L
  induction L with
  | nil => intro _; simp
  | cons ρ L ih =>
    intro h
    have h1 := ih fun x hx => h x (by simp [hx])
    have h2 := h ρ (by simp)
    rw [List.flatten_cons, List.length_append, List.length_cons, Nat.mul_add]
    omega
theorem tour_len (I : Ins) (col : Nat → Int) (hv : I.vans ≤ 3) : (planB (tourR I col)).length ≤ 100 := by
  have h1 := planB_len (R := tourR I col)
  have h2 := flat_le (k := 7) (tourR I col) fun ρ hρ => by
    obtain ⟨f, _, rfl⟩ := List.mem_map.1 hρ
    exact rt_len _ _ _
  have h3 : (tourR I col).length ≤ 3 := by
    unfold tourR
    rw [List.length_map]
    have := fs_len I.n I.vans col
    omega
  omega
/- what next leaves -/
def NextLeft (w0 w : World) (p : Nat) (r : Rd) (vl : Value) (fc : Option RoutesQ) (P : PathT) (vs vf vf2 : Value) (e : Ending) (w' : World) : Prop :=
  ∃ x, e = .returned (.agg #[.int .i64 (nextQ (insOf r (siteD r)) P fc).1.1, x]) ∧ w'.ownsRow w.heap.size 3 1 x (nextQ (insOf r (siteD r)) P fc).1.2.length (ints (nextQ (insOf r (siteD r)) P fc).1.2) ∧ SearchAt w0 w' p r vl (nextQ (insOf r (siteD r)) P fc).2 P vs vf vf2 ∧ KeptB w w' p ∧ GoodB (insOf r (siteD r)) P
theorem good_tight {I : Ins} {P : PathT} {cost : Int} {col u v : Nat → Int} (hb : resP I P = ⟨true, cost, col, u, v, fun _ => false⟩) (ht : Tight (I.n + I.vans) (cellQ I (tabP P)) col u v cost) : GoodB I P := ⟨fun _ => by rw [hb]; exact ht, fun h => by rw [hb] at h; cases h⟩
theorem good_short {I : Ins} {P : PathT} {S T : Nat → Bool} (hb : resP I P = ⟨false, 0, fun _ => 0, fun _ => 0, fun _ => 0, S⟩) (ht : Short (I.n + I.vans) (cellQ I (tabP P)) S T) : GoodB I P := ⟨fun h => (by rw [hb] at h; cases h), fun _ => ⟨T, by rw [hb]; exact ht⟩⟩

theorem walk_box {w0 w : World} {p b k : Nat} {r : Rd} {ex : Nat → Option Value} {P : PathT} {vs vf vf2 : Value} {cs : Array Value} (hw : WalkG w0 w p r ex P vs vf vf2) (hb : w.heap[b]? = some (.cells cs 76 (0, 0))) (hp : p < b) (u : Value) : WalkG w0 (w.setCell ⟨b, k, none⟩ u) p r ex P vs vf vf2 := by
  refine walk_same hw (Below.heap_setCell w _ _ p (by show p ≠ b; omega)) (fun va hva q hq => ?_) ((Below.refl p w).setCell (by show p ≤ b; omega) _)
  obtain ⟨va', g1, g2⟩ := hw.above
  rw [g1] at hva
  cases hva
  refine Below.heap_setCell w _ _ q (fun e => ?_)
  have e' : q = b := e
  subst e'
  rcases g2.2 with ⟨h1, _⟩ | ⟨g, cap, cur, h1, _, h3, _⟩
  · rw [h1] at hq; cases hq
  · rw [h1] at hq
    cases hq
    rw [hb] at h3
    cases h3
theorem next_fin {w0 w w4 : World} {p B4 : Nat} {r : Rd} {vl : Value} {fc fc' : Option RoutesQ} {P : PathT} {vs vf vf2 xv : Value} {nd : NodeT} {kd : Int} {cs : Array Value} (hS : SearchAt w0 w4 p r vl fc' P vs vf vf2) (hK : KeptB w w4 p) (hbx : w4.heap[w.heap.size]? = some (.cells cs 76 (0, 0))) (hp : p < w.heap.size)
    (ho : w4.ownsRow B4 3 1 xv nd.2.length (ints nd.2)) (hB4 : w.heap.size < B4) (hnx : nextQ (insOf r (siteD r)) P fc = (nd, fc')) (hkd : nd.1 = kd) (hg : GoodB (insOf r (siteD r)) P) :
    NextLeft w0 w p r vl fc P vs vf vf2 (.returned (.agg #[.int .i64 kd, xv])) ((w4.setCell ⟨w.heap.size, 0, none⟩ (.int .i64 kd)).setCell ⟨w.heap.size, 1, none⟩ xv) := by
  have hb1 := heap_setCell_same w4 w.heap.size 0 _ _ (.int .i64 kd) hbx
  refine ⟨xv, by rw [hnx, ← hkd], ?_, ?_, ?_, hg⟩
  · rw [hnx]
    exact own_base (own_aside (own_aside ho hB4) hB4) (by omega)
  · rw [hnx]
    exact walk_box (walk_box hS hbx hp _) hb1 hp _
  · refine ⟨by simp; exact hK.1, fun k hk hkp => ?_⟩
    rw [Below.heap_setCell _ _ _ k (by show k ≠ w.heap.size; omega), Below.heap_setCell _ _ _ k (by show k ≠ w.heap.size; omega)]
    exact hK.2 k hk hkp

set_option maxRecDepth 100000 in
set_option maxHeartbeats 8000000 in
theorem next_any (w0 w : World) (p B : Nat) (r : Rd) (vl : Value) (fc : Option RoutesQ) (P : PathT) (vs vf : Value) (af : Option Addr) (cf : Nat) (hok : RdOk r) (hT : TabX B w) (hB : B ≤ p) (hw : SearchAt w0 w p r vl fc P vs vf (.slice af (r.stops.length + 1 : Nat) cf)) (hs : StR w0 vs r) (hq : SqR w0 vf (r.stops.length + 1) (siteD r)) (hq2 : SqR w0 (.slice af (r.stops.length + 1 : Nat) cf) (r.stops.length + 1) (siteD r)) :
    Calls Tryz.prog 88 #[.pointer (some ⟨p, 0, none⟩)] w (NextLeft w0 w p r vl fc P vs vf (.slice af (r.stops.length + 1 : Nat) cf)) := by
  have hn7 := hok.nstops
  have hhd := headOk_iff.1 hok.head
  obtain ⟨v, hv⟩ : ∃ v : Nat, r.vans = v := ⟨r.vans.toNat, by omega⟩
  have hv1 : 1 ≤ v := by omega
  have hv3 : v ≤ 3 := by omega
  have hvt : r.vans.toNat = v := by rw [hv]; simp
  have hpl := hw.arcs.lt
  have hB0 : Below w0.heap.size w0 w := by rw [hw.size]; exact hw.below
  have HSQ : Hid (∀ W, Below w.heap.size w W → Calls Tryz.prog 121 #[.pointer (some ⟨p, 8, none⟩)] W fun e w' => ∃ x, e = .returned x ∧ GridO w' W.heap.size x (r.stops.length + v) (cellQ (insOf r (siteD r)) (tabP P)) ∧ Below W.heap.size W w') := fun W hW =>
    square_own p 8 r (tabP P) (siteD r) _ r.stops.length v (r.stops.length + v) W hn7 hv hv1 hv3 rfl (hw.arcs.below hW) ((hq2.below hB0).below hW)
  have HBD : Hid (∀ W x, GridO W w.heap.size x (r.stops.length + v) (cellQ (insOf r (siteD r)) (tabP P)) → Calls Tryz.prog 112 #[x] W (BestLeftD W (r.stops.length + v) (cellQ (insOf r (siteD r)) (tabP P)))) := fun W x hx =>
    best_det _ _ x W (by omega) (hx.sq (by omega)) (cell_low hok (tabP P) v)
  have HW := hid hw
  have HRS : Hid (bestF (r.stops.length + v) (cellQ (insOf r (siteD r)) (tabP P)) = resP (insOf r (siteD r)) P) := by show _ = bestF (r.stops.length + r.vans.toNat) _; rw [hvt]
  obtain ⟨W1, hW1⟩ : ∃ W1, W1 = w.alloc (.cells #[.int .i64 0, .slice none 0 0] 76) := ⟨_, rfl⟩
  have HB1 : Hid (Below w.heap.size w W1) := by show Below _ _ _; rw [hW1]; exact below1 w _
  have hbx1 : W1.heap[w.heap.size]? = some (.cells #[.int .i64 0, .slice none 0 0] 76 (0, 0)) := by rw [hW1]; exact heap_alloc_new w _
  have HBX1 := hid hbx1
  have hl1 : w.heap.size < W1.heap.size := (Array.getElem?_eq_some_iff.1 hbx1).1
  have HWQ1 := hid hW1
  clear hW1 hbx1 hw hhd hB0
  go_enter Tryz.func88, Tryz.ntmps88
  go_wp2_with fail
  rw [← HWQ1.out]
  refine (HSQ.out _ HB1.out).mono ?_
  rintro e2 w2 ⟨x2, rfl, hg2, hb2⟩
  have HB2 : Hid (Below w.heap.size w w2) := HB1.out.trans (hb2.mono HB1.out.size)
  have HBX2 := hid ((hb2.block _ hl1).trans HBX1.out)
  have hl2 : w.heap.size < w2.heap.size := (Array.getElem?_eq_some_iff.1 HBX2.out).1
  have HBS := hid (HBD.out w2 x2 (hg2.base (by omega)))
  obtain ⟨g2, _, rfl, _⟩ := hg2
  clear hb2 HSQ HBD
  go_wp2_with fail
  refine HBS.out.mono ?_
  rintro e3 w3 ⟨hb3, hcase⟩
  have HB3 : Hid (Below w.heap.size w w3) := HB2.out.trans (hb3.mono HB2.out.size)
  have HBX3 := hid ((hb3.block _ hl2).trans HBX2.out)
  have hl3 : w.heap.size < w3.heap.size := (Array.getElem?_eq_some_iff.1 HBX3.out).1
  rcases hcase with ⟨g1, g2', g3, col, u, v', cost, rfl, hrows, hbf⟩ | ⟨x, S, U, rfl, ⟨ho3, hsh⟩, hbf⟩
  · obtain ⟨k1, k2, k3, n12, n13, n23, hr1, hr2, hr3, htt⟩ := hrows
    have HBF : Hid (resP (insOf r (siteD r)) P = ⟨true, cost, col, u, v', fun _ => false⟩) := by show _ = _; rw [← HRS.out, hbf]
    have HTT : Hid (Tight ((insOf r (siteD r)).n + (insOf r (siteD r)).vans) (cellQ (insOf r (siteD r)) (tabP P)) col u v' cost) := by show Tight (r.stops.length + r.vans.toNat) _ _ _ _ _; rw [hvt]; exact htt
    have HG : Hid (GoodB (insOf r (siteD r)) P) := good_tight HBF.out HTT.out
    have HTR := hid (tight_tour HTT.out)
    obtain ⟨W3, hW3⟩ : ∃ W3, W3 = w3.alloc (.cells #[.bool true, .int .i64 cost, .slice (some ⟨g1, 0, none⟩) (r.stops.length + v) (r.stops.length + v), .slice (some ⟨g2', 0, none⟩) (r.stops.length + v) (r.stops.length + v), .slice (some ⟨g3, 0, none⟩) (r.stops.length + v) (r.stops.length + v), .slice none 0 0] 125) := ⟨_, rfl⟩
    have hbW : Below w3.heap.size w3 W3 := by rw [hW3]; exact below1 w3 _
    have hzW : W3.heap.size = w3.heap.size + 1 := by rw [hW3]; simp
    have HR1 := hid (hr1.block (hbW.block _ hr1.lt))
    have HR2 := hid (hr2.block (hbW.block _ hr2.lt))
    have HR3 := hid (hr3.block (hbW.block _ hr3.lt))
    have hbm : W3.heap[w3.heap.size]? = some (.cells #[.bool true, .int .i64 cost, .slice (some ⟨g1, 0, none⟩) (r.stops.length + v) (r.stops.length + v), .slice (some ⟨g2', 0, none⟩) (r.stops.length + v) (r.stops.length + v), .slice (some ⟨g3, 0, none⟩) (r.stops.length + v) (r.stops.length + v), .slice none 0 0] 125 (0, 0)) := by rw [hW3]; exact heap_alloc_new w3 _
    have HBM := hid hbm
    obtain ⟨ml, m0, m1, m2, m3, m4, m5, mf⟩ := six_at hbm
    have HBW : Hid (Below w.heap.size w W3) := HB3.out.trans (hbW.mono (by omega))
    have HBXW := hid ((hbW.block _ hl3).trans HBX3.out)
    have r0 : W3.cell? ⟨w.heap.size, 0, none⟩ = _ := cell_of_row W3 _ 0 _ _ _ HBXW.out
    have r1 : W3.cell? ⟨w.heap.size, 1, none⟩ = _ := cell_of_row W3 _ 1 _ _ _ HBXW.out
    have f0 := frozen_of_row W3 w.heap.size 0 _ _ HBXW.out
    have f1 := frozen_of_row W3 w.heap.size 1 _ _ HBXW.out
    have HWW := hid (HW.out.mv HBW.out)
    have hplW := HWW.out.arcs.lt
    have s76 := search_found HWW.out
    have s78 := search_cost HWW.out
    have HWQ3 := hid hW3
    have HDU : Hid (∀ W, Below W3.heap.size W3 W → Calls Tryz.prog 139 #[.agg #[.bool true, .int .i64 cost, .slice (some ⟨g1, 0, none⟩) (r.stops.length + v) (r.stops.length + v), .slice (some ⟨g2', 0, none⟩) (r.stops.length + v) (r.stops.length + v), .slice (some ⟨g3, 0, none⟩) (r.stops.length + v) (r.stops.length + v), .slice none 0 0]] W fun e w' => ∃ x, e = .returned (.agg #[.int .i64 2, x]) ∧ w'.ownsRow W.heap.size 3 1 x (dualN (r.stops.length + v) u v').2.length (ints (dualN (r.stops.length + v) u v').2) ∧ Below W.heap.size W w') := fun W hW =>
      duals_any _ g1 g2' g3 u v' cost W (by omega) (HR2.out.block (hW.block _ HR2.out.lt)) (HR3.out.block (hW.block _ HR3.out.lt))
    clear hW3 hbm hbW hr1 hr2 hr3 htt hbf HBS hb3
    by_cases hbd : ∃ R, fc = some R ∧ costQ (insOf r (siteD r)) R ≤ cost
    · have HNX : Hid (nextQ (insOf r (siteD r)) P fc = (dualN (r.stops.length + v) u v', fc)) := by
        show _ = _
        unfold nextQ
        rw [HBF.out, if_neg (by simp), if_pos hbd]
        show (dualN (r.stops.length + r.vans.toNat) u v', fc) = _
        rw [hvt]
      obtain ⟨R, hR, hle⟩ := hbd
      rw [hR] at s76 s78
      have s76' : W3.cell? ⟨p, 76, none⟩ = some (.bool true) := s76
      have s78' : W3.cell? ⟨p, 78, none⟩ = some (.int .i64 (costQ (insOf r (siteD r)) R)) := s78
      generalize costQ (insOf r (siteD r)) R = cR at *
      clear s76 s78 hR
      go_wp2_with fail
      rw [← HWQ3.out]
      go_quiet (fail)
      go_wp2_with fail
      refine (HDU.out _ (below_dn (Below.refl _ _) _)).mono ?_
      rintro e4 w4 ⟨x, rfl, ho4, hb4⟩
      have hb34 : Below W3.heap.size W3 w4 := (below_dn (Below.refl _ _) _).trans hb4
      have HB4 : Hid (Below w.heap.size w w4) := HBW.out.trans (hb34.mono HBW.out.size)
      have hbx4 := (hb34.block _ (by omega)).trans HBXW.out
      have HBX4 := hid hbx4
      have HO4 : Hid (w4.ownsRow W3.heap.size 3 1 x (dualN (r.stops.length + v) u v').2.length (ints (dualN (r.stops.length + v) u v').2)) := ho4
      have y0 : w4.cell? ⟨w.heap.size, 0, none⟩ = _ := cell_of_row w4 _ 0 _ _ _ hbx4
      have y1 : w4.cell? ⟨w.heap.size, 1, none⟩ = _ := cell_of_row w4 _ 1 _ _ _ hbx4
      have ly : w.heap.size < w4.heap.size := (Array.getElem?_eq_some_iff.1 hbx4).1
      have fy0 := frozen_of_row w4 w.heap.size 0 _ _ hbx4
      have fy1 := frozen_of_row w4 w.heap.size 1 _ _ hbx4
      obtain ⟨ax, cx, rfl, _, _⟩ := own_val ho4
      clear ho4 hb4 hb34 hbx4 HDU
      go_wp2_with fail
      refine bodyPost_ret (v := .agg #[.int .i64 2, .slice ax (dualN (r.stops.length + v) u v').2.length cx]) (by simp [results, Tryz.results88, go_sem, y0, y1]) rfl ?_
      exact next_fin (HW.out.mv HB4.out) (KeptB.of_below HB4.out) HBX4.out hpl HO4.out (by omega) HNX.out rfl HG.out
    · have HNX1 : Hid (PlanQ (insOf r (siteD r)) (tourR (insOf r (siteD r)) col) → nextQ (insOf r (siteD r)) P fc = (dualN (r.stops.length + v) u v', some (tourR (insOf r (siteD r)) col))) := fun hp => by
        unfold nextQ
        rw [HBF.out, if_neg (by simp), if_neg hbd, if_pos hp]
        show (dualN (r.stops.length + r.vans.toNat) u v', _) = _
        rw [hvt]
      have HNX2 : Hid (¬ PlanQ (insOf r (siteD r)) (tourR (insOf r (siteD r)) col) → nextQ (insOf r (siteD r)) P fc = (partQ (tabP P) (weakQ (insOf r (siteD r)) (tabP P) (bhQ r.stops.length col) (fsQ r.stops.length v col)), fc)) := fun hp => by
        unfold nextQ
        rw [HBF.out, if_neg (by simp), if_neg hbd, if_neg hp]
        show (partQ (tabP P) (weakQ (insOf r (siteD r)) (tabP P) (bhQ r.stops.length col) (fsQ r.stops.length r.vans.toNat col)), fc) = _
        rw [hvt]
      have HTR' : Hid (TourQ (insOf r (siteD r)) (bhQ r.stops.length col) (fsQ r.stops.length v col)) := by
        have h := HTR.out
        show TourQ _ _ _
        rw [← hvt]; exact h
      have HRE : Hid (tourR (insOf r (siteD r)) col = (fsQ r.stops.length v col).map (rtQ (bhQ r.stops.length col) 7)) := by
        show (fsQ r.stops.length r.vans.toNat col).map _ = _
        rw [hvt]; rfl
      have HJT := hid (judge_tour hok (col := col) hn7 (by have h := HTR.out; exact h))
      have HLS : Hid (∀ W, Below w.heap.size w W → Calls Tryz.prog 140 #[.pointer (some ⟨p, 8, none⟩)] W fun e w' => ∃ x, e = .returned x ∧ w'.ownsRow W.heap.size 3 1 x (r.stops.length + v) (ints ((List.range (r.stops.length + v)).map fun i => (lineN r.stops.length i : Int))) ∧ Below W.heap.size W w') := fun W hW => by
        rw [← lineN_list]
        exact lineSites_any p 8 r (tabP P) af cf r.stops.length v W hn7 hv hv3 ((HW.out.mv hW).arcs)
      have hcs : (W3.cell? ⟨p, 76, none⟩ = some (.bool false)) ∨ (∃ cR, W3.cell? ⟨p, 76, none⟩ = some (.bool true) ∧ W3.cell? ⟨p, 78, none⟩ = some (.int .i64 cR) ∧ cost < cR) := by
        cases hfc : fc with
        | none => rw [hfc] at s76; exact .inl s76
        | some R =>
          rw [hfc] at s76 s78
          exact .inr ⟨costQ (insOf r (siteD r)) R, s76, s78, by
            have h : ¬ costQ (insOf r (siteD r)) R ≤ cost := fun h => hbd ⟨R, hfc, h⟩
            omega⟩
      clear s76 s78 hbd HTR
      rcases hcs with s76' | ⟨cR, s76', s78', hlt⟩
      all_goals
        go_wp2_with fail
        rw [← HWQ3.out]
        go_quiet (fail)
        go_wp2_with fail
        refine (HLS.out _ (below_dn HBW.out _)).mono ?_
        rintro e4 w4 ⟨x4, rfl, ho4, hb4⟩
        have hb34 : Below W3.heap.size W3 w4 := (below_dn (Below.refl _ _) _).trans hb4
        obtain ⟨a4, c4, rfl, _, _⟩ := own_val ho4
        have HLR : Hid (ListR w4 (.slice a4 (r.stops.length + v) c4) ((List.range (r.stops.length + v)).map fun i => (lineN r.stops.length i : Int))) := ListR.own (by rw [List.length_map, List.length_range]; exact ho4)
        have HB4 : Hid (Below W3.heap.size W3 w4) := hb34
        have z2 : w4.cell? ⟨w3.heap.size, 2, none⟩ = _ := (hb34.cell (by exact ml)).trans m2
        have lz : w3.heap.size < w4.heap.size := Nat.lt_of_lt_of_le ml hb34.size
        have HTO := hid (tourOf_any r.stops.length v g1 col _ w4 hn7 hv3 HLR.out (HR1.out.block (hb34.block _ HR1.out.lt)) (fun i hi => by
          obtain ⟨k, h1, h2, _⟩ := HTT.out.tcol i (by show i < r.stops.length + r.vans.toNat; rw [hvt]; exact hi)
          have h2' : k < r.stops.length + r.vans.toNat := h2
          rw [hvt] at h2'
          exact ⟨k, h1, h2'⟩))
        clear ho4 hb4 hb34 HLS
        go_wp2_with fail
        refine HTO.out.mono ?_
        rintro e5 w5 ⟨t, rfl, htl, hto5, hb5⟩
        have hb35 : Below W3.heap.size W3 w5 := HB4.out.trans (hb5.mono HB4.out.size)
        have HBw5 : Hid (Below w.heap.size w w5) := HBW.out.trans (hb35.mono HBW.out.size)
        have HB35 := hid hb35
        have HTO5 := hid hto5
        have HPL := hid (tplan_any B t r.stops.length _ _ w5 (hT.on HBw5.out (by omega)) (by have := HBw5.out.size; omega) hn7 (fun f hf => (HTR'.out.fr f hf).2) (by have := fs_len r.stops.length v col; omega) HTR'.out.rng hto5)
        rw [← HRE.out] at HPL
        clear hto5 hb5 hb35 HTO HLR z2
        go_wp2_with fail
        refine HPL.out.mono ?_
        rintro e6 w6 ⟨rfl, hb6⟩
        have hb36 : Below W3.heap.size W3 w6 := HB35.out.trans (hb6.mono HB35.out.size)
        have HBw6 : Hid (Below w.heap.size w w6) := HBW.out.trans (hb36.mono HBW.out.size)
        have HB36 := hid hb36
        have HTO6 := hid (HTO5.out.below hb6)
        have HTK := hid (stake_any w0 w6 p r vl fc P (tourR (insOf r (siteD r)) col) vs vf _ hok (HW.out.mv HBw6.out) hs hq (tour_len _ _ (by show r.vans.toNat ≤ 3; omega)) HJT.out.1 HJT.out.2)
        have HSA6 := hid (HW.out.mv HBw6.out)
        clear hb6 hb36 HPL HB35 HTO5 HBw5
        by_cases hp : PlanQ (insOf r (siteD r)) (tourR (insOf r (siteD r)) col)
        · have HNX := hid (HNX1.out hp)
          have HP := hid hp
          clear HNX1 HNX2 hp
          go_wp2_with fail
          refine HTK.out.mono ?_
          rintro e7 w7 ⟨h7, _⟩
          obtain ⟨rfl, hs7, hk7⟩ := h7 HP.out
          have hz6 : W3.heap.size ≤ w6.heap.size := HB36.out.size
          have hkb : ∀ k, k < W3.heap.size → k ≠ p → w7.heap[k]? = W3.heap[k]? := fun k h1 h2 => (hk7.2 k (by omega) h2).trans (HB36.out.block k h1)
          have HS7 := hid hs7
          have HK7 : Hid (KeptB w w7 p) := (KeptB.of_below HBw6.out).trans hk7
          have hbm7 := (hkb w3.heap.size ml (by omega)).trans HBM.out
          obtain ⟨ml7, q0, q1, q2, q3, q4, q5, qf⟩ := six_at hbm7
          have hbx7 := (hkb w.heap.size (by omega) (by omega)).trans HBXW.out
          have HD7 := hid (duals_any (r.stops.length + v) g1 g2' g3 u v' cost w7 (by omega) (HR2.out.block (hkb _ HR2.out.lt (by omega))) (HR3.out.block (hkb _ HR3.out.lt (by omega))))
          have HBX7 := hid hbx7
          have lw7 : w.heap.size < w7.heap.size := (Array.getElem?_eq_some_iff.1 hbx7).1
          have hz7 : w.heap.size < w7.heap.size := lw7
          clear h7 hs7 hk7 hkb hbm7 hbx7 HTK
          go_wp2_with fail
          refine HD7.out.mono ?_
          rintro e8 w8 ⟨x8, rfl, ho8, hb8⟩
          have hbx8 := (hb8.block _ lw7).trans HBX7.out
          have HBX8 := hid hbx8
          have HS8 := hid (HS7.out.mv hb8)
          have HK8 : Hid (KeptB w w8 p) := HK7.out.trans (KeptB.of_below hb8)
          have HO8 := hid ho8
          have y0 : w8.cell? ⟨w.heap.size, 0, none⟩ = _ := cell_of_row w8 _ 0 _ _ _ hbx8
          have y1 : w8.cell? ⟨w.heap.size, 1, none⟩ = _ := cell_of_row w8 _ 1 _ _ _ hbx8
          have ly : w.heap.size < w8.heap.size := (Array.getElem?_eq_some_iff.1 hbx8).1
          have fy0 := frozen_of_row w8 w.heap.size 0 _ _ hbx8
          have fy1 := frozen_of_row w8 w.heap.size 1 _ _ hbx8
          obtain ⟨ax, cx, rfl, _, _⟩ := own_val ho8
          clear ho8 hb8 hbx8 HD7
          go_wp2_with fail
          refine bodyPost_ret (v := .agg #[.int .i64 2, .slice ax (dualN (r.stops.length + v) u v').2.length cx]) (by simp [results, Tryz.results88, go_sem, y0, y1]) rfl ?_
          exact next_fin HS8.out HK8.out HBX8.out hpl HO8.out hz7 HNX.out rfl HG.out
        · have HNX := hid (HNX2.out hp)
          have HP := hid hp
          have HCO := hid (weak_ok (insOk_of hok (fun a b h1 h2 => (site_range hok a b h1 h2).1)) hn7 HTR'.out (tabP P) (by rw [← HRE.out]; exact hp))
          clear HNX1 HNX2 hp
          go_wp2_with fail
          refine HTK.out.mono ?_
          rintro e7 w7 ⟨_, h7⟩
          obtain ⟨rfl, hb7⟩ := h7 HP.out
          have hb37 : Below W3.heap.size W3 w7 := HB36.out.trans (hb7.mono HB36.out.size)
          have HBw7 : Hid (Below w.heap.size w w7) := HBW.out.trans (hb37.mono HBW.out.size)
          have HS7 := hid (HW.out.mv HBw7.out)
          have HB37 := hid hb37
          have HWK := hid (sweak_any p t r (siteD r) (tabP P) _ _ vs vf af cf w7 hok (HS7.out.area hs hq) HS7.out.arcs (site_range hok) (HTO6.out.below hb7) HTR'.out (by have := fs_len r.stops.length v col; omega))
          clear h7 hb7 hb37 HTK
          go_wp2_with fail
          refine HWK.out.mono ?_
          rintro e8 w8 ⟨x8, rfl, ho8, hb8⟩
          have HBw8 : Hid (Below w.heap.size w w8) := HBw7.out.trans (hb8.mono HBw7.out.size)
          have HS8 := hid (HW.out.mv HBw8.out)
          have hb38 : Below W3.heap.size W3 w8 := HB37.out.trans (hb8.mono HB37.out.size)
          have HB38 := hid hb38
          have hz8 : W3.heap.size ≤ w7.heap.size := HB37.out.size
          have HPT := hid (spart_any p w7.heap.size r (tabP P) af cf r.stops.length _ x8 w8 hn7 HS8.out.arcs ho8 hb8.size (List.length_pos_iff.2 HCO.out.ok.ne) (by have := HCO.out.len; omega) HCO.out.ok.rng)
          obtain ⟨a8, c8, rfl, _, _⟩ := own_val ho8
          generalize weakQ (insOf r (siteD r)) (tabP P) (bhQ r.stops.length col) (fsQ r.stops.length v col) = ch at *
          clear ho8 hb8 hb38 HWK
          go_wp2_with fail
          refine HPT.out.mono ?_
          rintro e9 w9 ⟨x9, rfl, ho9, hb9⟩
          have HBw9 : Hid (Below w.heap.size w w9) := HBw8.out.trans (hb9.mono HBw8.out.size)
          have hb39 : Below W3.heap.size W3 w9 := HB38.out.trans (hb9.mono HB38.out.size)
          have hbx9 := (hb39.block _ (by omega)).trans HBXW.out
          have HBX9 := hid hbx9
          have HO9 := hid ho9
          have y0 : w9.cell? ⟨w.heap.size, 0, none⟩ = _ := cell_of_row w9 _ 0 _ _ _ hbx9
          have y1 : w9.cell? ⟨w.heap.size, 1, none⟩ = _ := cell_of_row w9 _ 1 _ _ _ hbx9
          have ly : w.heap.size < w9.heap.size := (Array.getElem?_eq_some_iff.1 hbx9).1
          have fy0 := frozen_of_row w9 w.heap.size 0 _ _ hbx9
          have fy1 := frozen_of_row w9 w.heap.size 1 _ _ hbx9
          obtain ⟨ax, cx, rfl, _, _⟩ := own_val ho9
          clear ho9 hb9 hb39 hbx9 HPT
          go_wp2_with fail
          refine bodyPost_ret (v := .agg #[.int .i64 (partQ (tabP P) ch).1, .slice ax (partQ (tabP P) ch).2.length cx]) (by simp [results, Tryz.results88, go_sem, y0, y1]) rfl ?_
          exact next_fin (HW.out.mv HBw9.out) (KeptB.of_below HBw9.out) HBX9.out hpl HO9.out (by omega) HNX.out rfl HG.out
  · have HBF : Hid (resP (insOf r (siteD r)) P = ⟨false, 0, fun _ => 0, fun _ => 0, fun _ => 0, S⟩) := by show _ = _; rw [← HRS.out, hbf]
    have HG : Hid (GoodB (insOf r (siteD r)) P) := good_short HBF.out (by show Short (r.stops.length + r.vans.toNat) _ _ _; rw [hvt]; exact hsh)
    have HNX : Hid (nextQ (insOf r (siteD r)) P fc = (hallN (r.stops.length + v) S, fc)) := by
      show _ = _
      unfold nextQ
      rw [HBF.out, if_pos rfl]
      show (hallN (r.stops.length + r.vans.toNat) S, fc) = _
      rw [hvt]
    have HO3 := hid ho3
    obtain ⟨ax, cx, rfl, _, _⟩ := own_val ho3
    have HW3 := hid (HW.out.mv HB3.out)
    have HK3 : Hid (KeptB w w3 p) := KeptB.of_below HB3.out
    have r0 : w3.cell? ⟨w.heap.size, 0, none⟩ = _ := cell_of_row w3 _ 0 _ _ _ HBX3.out
    have r1 : w3.cell? ⟨w.heap.size, 1, none⟩ = _ := cell_of_row w3 _ 1 _ _ _ HBX3.out
    have f0 := frozen_of_row w3 w.heap.size 0 _ _ HBX3.out
    have f1 := frozen_of_row w3 w.heap.size 1 _ _ HBX3.out
    clear ho3 hsh hbf HBS hb3
    go_wp2_with fail
    refine bodyPost_ret (v := .agg #[.int .i64 3, .slice ax ((List.range (r.stops.length + v)).filter S).length cx]) (by simp [results, Tryz.results88, go_sem, r0, r1, hl3]) rfl ?_
    obtain ⟨w4, hw4⟩ : ∃ w4, w4 = ((w3.setCell ⟨w.heap.size, 0, none⟩ (.int .i64 3)).setCell ⟨w.heap.size, 1, none⟩ (.slice ax ((List.range (r.stops.length + v)).filter S).length cx)).alloc (.cells #[.bool false, .int .i64 0, .slice none 0 0, .slice none 0 0, .slice none 0 0, .slice ax ((List.range (r.stops.length + v)).filter S).length cx] 125) := ⟨_, rfl⟩
    rw [← hw4]
    have hfin : Below w.heap.size w w4 := by
      rw [hw4]
      exact ((HB3.out.setCell (by exact Nat.le_refl _) _).setCell (by exact Nat.le_refl _) _).alloc (by simp; omega) _
    refine ⟨_, by rw [HNX.out]; rfl, ?_, by rw [HNX.out]; exact HW.out.mv hfin, KeptB.of_below hfin, HG.out⟩
    rw [HNX.out, hw4]
    show World.ownsRow _ _ _ _ _ (((List.range (r.stops.length + v)).filter S).map fun (i : Nat) => (i : Int)).length _
    rw [List.length_map]
    exact own_base ((own_aside (own_aside HO3.out hl2) hl2).alloc _) (by omega)
end Go.Proofs.YtebinaopncclgabGreatDoor
