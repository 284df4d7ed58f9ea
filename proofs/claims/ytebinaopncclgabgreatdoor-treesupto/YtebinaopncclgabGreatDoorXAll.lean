/- Walks of the statements: the steps of Read and Write, one after the other. -/
import Derived.Test.YtebinaopncclgabGreatDoorGNodes
import Derived.Test.YtebinaopncclgabGreatDoorWaysZ
import Derived.Test.YtebinaopncclgabGreatDoorXProg
import Derived.Test.YtebinaopncclgabGreatDoorXHold
import Derived.Test.YtebinaopncclgabGreatDoorXLent
import Derived.Test.YtebinaopncclgabGreatDoorRRead
namespace Go.Proofs.YtebinaopncclgabGreatDoor
open Go.RowKit Go.IntWalk

set_option maxRecDepth 100000 in
set_option maxHeartbeats 4000000 in
theorem sameTree_any (L : List NodeT) (va vb : Value) (B B' : Nat) (w : World) (hL : L.length ≤ 4000000) (hl : ∀ nd ∈ L, nd.2.length ≤ 1000) (ha : NodesR w B va L) (hb : NodesR w B' vb L) :
    Calls Tryz.prog 70 #[va, vb] w fun e w' => e = .returned (.bool true) ∧ Below w.heap.size w w' := by
  have HA := hid ha
  have HB := hid hb
  have HL := hid hl
  obtain ⟨us, _, ho, _⟩ := ha
  obtain ⟨us', _, ho', _⟩ := hb
  obtain ⟨a1, c1, rfl, _, _⟩ := own_val ho
  obtain ⟨a2, c2, rfl, _, _⟩ := own_val ho'
  clear ho ho' hl
  go_enter Tryz.func70, Tryz.ntmps70
  go_wp2_with fail
  go_loopw [5] (fun i wr => ∃ k : Nat, i = .int .i64 k ∧ k ≤ L.length ∧ Hid (Below w.heap.size w wr)) (fun i _ => L.length - (intOf i).toNat)
  case atStart => exact ⟨0, rfl, Nat.zero_le _, Below.refl _ _⟩
  case round =>
    obtain ⟨k, rfl, hk, HBB⟩ := hrel
    by_cases hlt : k < L.length
    · obtain ⟨g1, d1, ao1, e1, hv1, _, hg1, x0, x1, hr1⟩ := (HA.out.below HBB.out).at hlt
      obtain ⟨g2, d2, ao2, e2, hv2, _, hg2, y0, y1, hr2⟩ := (HB.out.below HBB.out).at hlt
      cases hv1
      cases hv2
      have hln := HL.out _ (List.getElem_mem hlt)
      obtain ⟨_, _, ev1, h1⟩ := hr1
      obtain ⟨_, _, ev2, h2⟩ := hr2
      cases ev1
      cases ev2
      generalize L[k] = nd at *
      have HCS : Hid (∀ W, Below wr.heap.size wr W → Calls Tryz.prog 59 #[.slice ao1 nd.2.length e1, .slice ao2 nd.2.length e2] W fun e w' => e = .returned (.bool true) ∧ w'.cell? ⟨g1, k * 2 + 1, none⟩ = some (.slice ao1 nd.2.length e1) ∧ w'.cell? ⟨g2, k * 2 + 1, none⟩ = some (.slice ao2 nd.2.length e2) ∧ Hid (Below wr.heap.size wr w')) := fun W hW => by
        refine (sameInts_any nd.2.length e1 e2 ao1 ao2 (fun j => nd.2.getD j 0) W (by omega) (fun j hj => ?_) (fun j hj => ?_)).mono ?_
        · obtain ⟨g, k1, k2, k3⟩ := h1 j hj
          exact ⟨g, k1, Nat.lt_of_lt_of_le k2 hW.size, (hW.cell (by exact k2)).trans k3⟩
        · obtain ⟨g, k1, k2, k3⟩ := h2 j hj
          exact ⟨g, k1, Nat.lt_of_lt_of_le k2 hW.size, (hW.cell (by exact k2)).trans k3⟩
        · rintro e w' ⟨k1, k2⟩
          have k3 : Below wr.heap.size wr w' := hW.trans (k2.mono hW.size)
          exact ⟨k1, (k3.cell (by exact hg1)).trans x1, (k3.cell (by exact hg2)).trans y1, k3⟩
      have ik : (0 : Int) ≤ (k : Int) := by omega
      have jk : (k : Int) < (L.length : Int) := by omega
      clear h1 h2
      go_wp2_with fail
      go_region_held3 (fun w' => w'.cell? ⟨g1, k * 2 + 1, none⟩ = some (.slice ao1 nd.2.length e1) ∧ w'.cell? ⟨g2, k * 2 + 1, none⟩ = some (.slice ao2 nd.2.length e2)) (go_keep) (first | (go_at_call 59; refine (HCS.out _ (by first | exact Below.refl _ _ | exact (Below.refl _ _).drew)).mono ?_; rintro e3 w3 ⟨rfl, z0, z1, HF3⟩))
      have t0 : w3.cell? ⟨g1, k * 2, none⟩ = _ := (HF3.out.cell (by exact hg1)).trans x0
      have t1 : w3.cell? ⟨g2, k * 2, none⟩ = _ := (HF3.out.cell (by exact hg2)).trans y0
      have l1 : g1 < w3.heap.size := Nat.lt_of_lt_of_le hg1 HF3.out.size
      have l2 : g2 < w3.heap.size := Nat.lt_of_lt_of_le hg2 HF3.out.size
      have HB3 : Hid (Below w.heap.size w w3) := HBB.out.trans (HF3.out.mono HBB.out.size)
      have ee : (nd.1 != nd.1) = false := by simp
      clear HF3 HCS x0 x1 y0 y1 z0 z1 HBB
      go_wp2_with fail
      go_quiet (fail)
      go_wp2_with fail
      go_roundw
      case rel => exact ⟨k + 1, by go_num, by omega, below_dn HB3.out _⟩
      case measure => simp [intOf]; omega
    · go_wp2_with fail
      go_ret
      exact ⟨rfl, HBB.out⟩
end Go.Proofs.YtebinaopncclgabGreatDoor
namespace Go.Proofs.YtebinaopncclgabGreatDoor
open Go.RowKit Go.IntWalk

set_option maxRecDepth 100000 in
set_option maxHeartbeats 1000000 in
theorem dread_d (s : ByteArray) (w : World) (hs : s.size ≤ 2000000) : Calls Tryz.prog 68 #[.string s] w (ReadLeftD w (readT s.data.toList)) := by
  have HC := hid (tread_d s w hs)
  generalize readT s.data.toList = x at *
  obtain ⟨L, line, er⟩ := x
  by_cases h0 : er = 0
  · subst h0
    go_enter Tryz.func68, Tryz.ntmps68
    go_wp2_with fail
    refine HC.out.mono ?_
    rintro e1 w1 ⟨_, h1, hb1⟩
    obtain ⟨v1, rfl, hn1⟩ := h1 rfl
    have HN := hid hn1
    have HB := hid hb1
    obtain ⟨us, _, ho, _⟩ := hn1
    obtain ⟨a, c, rfl, _, _⟩ := own_val ho
    clear h1 hb1 HC ho
    go_wp2
    go_ret3
    exact ⟨fun h => absurd rfl h, fun _ => ⟨_, rfl, HN.out⟩, HB.out⟩
  · have HNE := hid h0
    clear h0
    go_enter Tryz.func68, Tryz.ntmps68
    go_wp2_with fail
    refine HC.out.mono ?_
    rintro e1 w1 ⟨h1, _, hb1⟩
    obtain rfl := h1 HNE.out
    have HB := hid hb1
    clear h1 hb1 HC
    go_wp2
    go_ret3
    exact ⟨fun _ => rfl, fun h => absurd h HNE.out, HB.out⟩

theorem op_u4 {o : OpV} {W : World} {b : Nat} (h : W.heap[b]? = some (.cells o.vals 58 (0, 0))) : W.cell? ⟨b, 4, none⟩ = some (.string o.u) ∧ W.cell? ⟨b, 13, none⟩ = some (.slice o.aL o.nL o.cL) := ⟨by rw [cell_of_row _ _ _ _ _ _ h]; rfl, by rw [cell_of_row _ _ _ _ _ _ h]; rfl⟩
/- what Read answers, in one form -/
def rdl (x : List NodeT × Nat × Int) : List NodeT × Nat × Int := if x.2.2 = 0 then (x.1, 0, 0) else ([], x.2.1, 14)
theorem read_d {w w' : World} {x : List NodeT × Nat × Int} {e : Ending} (h : ReadLeftD w x e w') : ∃ v, e = .returned (.tuple #[v, .int .i64 (rdl x).2.1, .int .i64 (rdl x).2.2]) ∧ NodesD w' w.heap.size v (rdl x).1 ∧ Below w.heap.size w w' := by
  obtain ⟨h1, h2, h3⟩ := h
  unfold rdl
  by_cases h0 : x.2.2 = 0
  · obtain ⟨v, k1, k2⟩ := h2 h0
    rw [if_pos h0]; exact ⟨v, k1, k2, h3⟩
  · rw [if_neg h0]; exact ⟨_, h1 h0, NodesD.nil _ _, h3⟩
theorem read_r {w w' : World} {x : List NodeT × Nat × Int} {e : Ending} (h : ReadLeft w x e w') : ∃ v, e = .returned (.tuple #[v, .int .i64 (rdl x).2.1, .int .i64 (rdl x).2.2]) ∧ NodesR w' w.heap.size v (rdl x).1 ∧ Below w.heap.size w w' := by
  obtain ⟨h1, h2, h3⟩ := h
  unfold rdl
  by_cases h0 : x.2.2 = 0
  · obtain ⟨v, k1, k2⟩ := h2 h0
    rw [if_pos h0]; exact ⟨v, k1, k2, h3⟩
  · rw [if_neg h0]; exact ⟨_, h1 h0, NodesR.nil _ _, h3⟩
theorem rdl_facts (s : ByteArray) (hs : s.size ≤ 1900000) : (rdl (readT s.data.toList)).1.length ≤ 2000000 ∧ (∀ nd ∈ (rdl (readT s.data.toList)).1, nd.2.length ≤ 1000) ∧ -9223372036854775808 ≤ (rdl (readT s.data.toList)).2.2 ∧ (rdl (readT s.data.toList)).2.2 ≤ 9223372036854775807 := by
  unfold rdl
  by_cases h0 : (readT s.data.toList).2.2 = 0
  · rw [if_pos h0]
    have h1 := readT_len s.data.toList
    have h2 : s.data.toList.length = s.size := by simp
    exact ⟨by show (readT s.data.toList).1.length ≤ _; omega, fun nd hm => by have := (node_facts (readT_ok h0).1 hm).1; omega, by show (-9223372036854775808 : Int) ≤ 0; omega, by show (0 : Int) ≤ 9223372036854775807; omega⟩
  · rw [if_neg h0]; exact ⟨by simp, fun nd hm => (by cases hm), by show (-9223372036854775808 : Int) ≤ 14; omega, by show (14 : Int) ≤ 9223372036854775807; omega⟩

set_option maxRecDepth 100000 in
set_option maxHeartbeats 4000000 in
theorem inst_read (w0 : World) (hb a m : Nat) (o : OpV) (w : World) (ho : o.k = 8) (hou : o.u.size ≤ 1900000) (h : HoldInvB w w0.heap.size hb a m) (ha : a ≤ 9100000000000) (hm : m ≤ 900000000000) (hw0 : w0.heap.size ≤ w.heap.size) :
    Calls Tryz.prog 32 #[.pointer (some ⟨hb, 0, none⟩), .agg o.vals] w fun e w' => e = .returned (.bool true) ∧ HoldInvB w' w0.heap.size hb (a + 2000000) (m + 1) ∧ Below w0.heap.size w w' := by
  obtain ⟨vi, vr, vs, vd, vn, I, R, S, D, N, h1, h2, h3, h4, h5, h6, h7⟩ := h
  have HH := hid h1
  have hbl : hb < w.heap.size := (Array.getElem?_eq_some_iff.1 h1.box).1
  have HOB := hid (op_box o w)
  have HVI : Hid (∀ q, vi.ownBlock = some q → q < w.heap.size) := fun q hq => (h1.oi.lt q hq).2
  have HSP := hid h7
  have HP : Hid (∀ W, Calls Tryz.prog 68 #[.string o.u] W fun e w' => ∃ v, e = .returned (.tuple #[v, .int .i64 (rdl (readT o.u.data.toList)).2.1, .int .i64 (rdl (readT o.u.data.toList)).2.2]) ∧ NodesD w' W.heap.size v (rdl (readT o.u.data.toList)).1 ∧ Below W.heap.size W w') := fun W => (dread_d o.u W (by omega)).mono fun e w' hh => read_d hh
  have HI : Hid (∀ W, Calls Tryz.prog 69 #[.string o.u] W fun e w' => ∃ v, e = .returned (.tuple #[v, .int .i64 (rdl (readT o.u.data.toList)).2.1, .int .i64 (rdl (readT o.u.data.toList)).2.2]) ∧ NodesR w' W.heap.size v (rdl (readT o.u.data.toList)).1 ∧ Below W.heap.size W w') := fun W => (rread_any o.u W (by omega)).mono fun e w' hh => read_r hh
  obtain ⟨f1, f2, f3⟩ := rdl_facts o.u hou
  generalize rdl (readT o.u.data.toList) = X at *
  obtain ⟨T, line, er⟩ := X
  dsimp only at HP HI f1 f2 f3
  have HF2 := hid f2
  unfold OpV.vals
  rw [ho]
  clear h1 h7 f2
  go_enter Tryz.func32, Tryz.ntmps32
  go_wp2_with fail
  rw [← ho]
  refine (HP.out _).mono ?_
  rintro e1 w1 ⟨v1, rfl, hn1, hb1⟩
  have hob1 := op_below HOB.out hb1
  obtain ⟨o4, o3⟩ := op_u4 hob1
  have hol : w.heap.size < w1.heap.size := (Array.getElem?_eq_some_iff.1 hob1).1
  have hso : (w.alloc (.cells o.vals 58)).heap.size = w.heap.size + 1 := by simp
  unfold OpV.vals at hso
  rw [hso] at hn1
  have HB1 : Hid (Below w.heap.size w w1) := (below1 w _).trans (hb1.mono (by simp))
  have HN1 := hid hn1
  obtain ⟨us, _, hv, _⟩ := hn1
  obtain ⟨a1, c1, rfl, _, _⟩ := own_val hv
  clear hb1 HP hob1 hv HOB hso
  go_wp2_with fail
  refine (HI.out _).mono ?_
  rintro e2 w2 ⟨v2, rfl, hn2, hb2⟩
  have HN2 := hid hn2
  have HB2 := hid hb2
  obtain ⟨us2, _, hv, _⟩ := hn2
  obtain ⟨a2, c2, rfl, _, _⟩ := own_val hv
  clear hb2 HI hv
  go_wp2_with fail
  refine (sameTree_any T _ _ _ _ w2 (by omega) HF2.out (HN1.out.below HB2.out).r HN2.out).mono ?_
  rintro e3 w3 ⟨rfl, hb3⟩
  have hs1 := HB1.out.size
  have hs2 := HB2.out.size
  have hs3 := hb3.size
  have HB3 : Hid (Below w.heap.size w w3) := (HB1.out.trans (HB2.out.mono hs1)).trans (hb3.mono (by omega))
  have HN3 := hid ((HN1.out.below HB2.out).below hb3)
  have HC := hid (tree_walk w0.heap.size w.heap.size hb (w.heap.size + 1) _ T vi vr vs vd vn I R S D N w3 (HH.out.below HB3.out (Nat.le_refl _)) f1 (by omega) (by omega) (by omega) (by omega) (by omega) HSP.out (fun q hq => by have := HVI.out q hq; omega) (by omega) HN3.out)
  clear hb3 HN1 HN2 o3 o4
  go_wp2_with fail
  refine HC.out.mono ?_
  rintro e4 w4 ⟨vi4, vn4, L4, s4, rfl, hh4, hl4, hsep4, _, hb4⟩
  have HI4 : Hid (HoldInvB w4 w0.heap.size hb (a + 2000000) (m + 1)) := ⟨vi4, vr, vs, vd, vn4, I ++ L4, R, S, D, N ++ [s4], hh4, h2, by simp; omega, by omega, by omega, by simp; omega, hsep4⟩
  have HB4 : Hid (Below w0.heap.size w w4) := (HB3.out.mono hw0).trans hb4
  clear hh4 hl4 hsep4 hb4 HC HN3
  have e0 : ((line : Int) == (line : Int)) = true := by simp
  have e00 : (er == er) = true := by simp
  go_wp2_with fail
  refine (num_any _ _ f3).mono ?_
  rintro e5 w5 ⟨rfl, rfl⟩
  go_wp2_with fail
  go_ret
  exact ⟨rfl, HI4.out, HB4.out⟩

theorem write_code (L : List NodeT) : -9223372036854775808 ≤ (writeT L).2 ∧ (writeT L).2 ≤ 9223372036854775807 := by
  unfold writeT
  split
  · exact ⟨by show (-9223372036854775808 : Int) ≤ 0; omega, by show (0 : Int) ≤ 9223372036854775807; omega⟩
  · exact ⟨by show (-9223372036854775808 : Int) ≤ 14; omega, by show (14 : Int) ≤ 9223372036854775807; omega⟩
theorem NodesZ.on {w w' : World} {ao : Option Addr} {n : Nat} {kd : Nat → Int} {ra : Nat → Option Addr} {rn rc : Nat → Nat} {Q : Nat → Nat → Int} (h : NodesZ w ao n kd ra rn rc Q) (hb : Below w.heap.size w w') : NodesZ w' ao n kd ra rn rc Q := h.below hb

set_option maxRecDepth 100000 in
set_option maxHeartbeats 4000000 in
theorem inst_write (w0 : World) (hb a m : Nat) (o : OpV) (kd : Nat → Int) (ra : Nat → Option Addr) (rn rc : Nat → Nat) (Q : Nat → Nat → Int) (w : World) (ho : o.k = 9) (hM : NodesZ w0 o.aL o.nL kd ra rn rc Q) (hn : o.nL * 32 ≤ 140737488355328) (hn2 : o.nL ≤ 2000000) (hrn : ∀ i, i < o.nL → rn i ≤ 2000000) (hT : TabX w0.heap.size w0)
    (h : HoldInvB w w0.heap.size hb a m) (hw0 : Below w0.heap.size w0 w) :
    Calls Tryz.prog 32 #[.pointer (some ⟨hb, 0, none⟩), .agg o.vals] w fun e w' => e = .returned (.bool true) ∧ HoldInvB w' w0.heap.size hb a m ∧ Below w0.heap.size w w' := by
  have HH := hid h
  have HM := hid hM
  have HRN : Hid (∀ i, i < o.nL → rn i * 8 ≤ 140737488355328) := fun i hi => by have := hrn i hi; omega
  have HW0 := hid hw0
  have HTX := hid hT
  have hs0 := hw0.size
  have HOB := hid (op_box o w)
  have HLN : Hid ((treeL o.nL kd rn Q).length ≤ 2000000) := by show _ ≤ _; rw [treeL_len]; exact hn2
  have HLL : Hid (∀ nd ∈ treeL o.nL kd rn Q, nd.2.length ≤ 2000000) := fun nd hm => by
    obtain ⟨i, hi1, hi2⟩ := List.getElem_of_mem hm
    rw [treeL_at hi1] at hi2
    rw [← hi2]
    simpa using hrn i (by rw [treeL_len] at hi1; exact hi1)
  have hwr := write_code (treeL o.nL kd rn Q)
  unfold OpV.vals
  rw [ho]
  clear h hM hrn hw0 hT
  go_enter Tryz.func32, Tryz.ntmps32
  go_wp2_with fail
  rw [← ho]
  have hbo : Below w.heap.size w (w.alloc (.cells o.vals 58)) := below1 w _
  have hW0o := HW0.out.trans (hbo.mono hs0)
  refine (lentTree_any o.aL o.nL o.cL kd ra rn rc Q _ hn HRN.out (HM.out.on hW0o)).mono ?_
  rintro e1 w1 ⟨g, G, rfl, hl1, hb1⟩
  have HB1 : Hid (Below w.heap.size w w1) := hbo.trans (hb1.mono (by simp))
  have hob1 := op_below HOB.out hb1
  have HO1 := hid hob1
  have HL1 := hid hl1
  clear hb1 hl1 hbo hW0o hob1 HOB
  go_wp2_with fail
  have hs1 := HB1.out.size
  refine (dwrite_any w0.heap.size (treeL o.nL kd rn Q) _ w1 (TabX.on HTX.out (HW0.out.trans (HB1.out.mono hs0)) (Nat.le_refl _)) (by omega) HLN.out HLL.out HL1.out.tree).mono ?_
  rintro e2 w2 ⟨rfl, hb2⟩
  have hs2 := hb2.size
  have HB2 : Hid (Below w.heap.size w w2) := HB1.out.trans (hb2.mono hs1)
  have HO2 := hid (op_below HO1.out hb2)
  have HL2 := hid (HL1.out.below hb2)
  obtain ⟨o4, o13⟩ := op_u4 HO2.out
  have hol : w.heap.size < w2.heap.size := (Array.getElem?_eq_some_iff.1 HO2.out).1
  clear hb2 HL1 HO1
  generalize hX : writeT (treeL o.nL kd rn Q) = X at *
  obtain ⟨x1, x2⟩ := X
  have HX := hid hX
  clear hX
  go_wp2_with fail
  refine (keptTree_any _ g o.nL o.cL o.aL kd G ra rn rc Q w2 hn HRN.out HL2.out (HM.out.on (HW0.out.trans (HB2.out.mono hs0)))).mono ?_
  rintro e3 w3 ⟨rfl, hb3⟩
  have hs3 := hb3.size
  have HB3 : Hid (Below w.heap.size w w3) := HB2.out.trans (hb3.mono (by omega))
  have HO3 := hid (op_below HO2.out hb3)
  clear o4 o13 hol
  obtain ⟨o4, o13⟩ := op_u4 HO3.out
  have hol : w.heap.size < w3.heap.size := (Array.getElem?_eq_some_iff.1 HO3.out).1
  clear hb3 HL2 HO2
  go_wp2_with fail
  refine (rwrite_any (treeL o.nL kd rn Q) _ w3 HLN.out HLL.out (HM.out.on (HW0.out.trans (HB3.out.mono hs0))).tree).mono ?_
  rintro e4 w4 ⟨rfl, hb4⟩
  rw [HX.out]
  have HB4 : Hid (Below w.heap.size w w4) := HB3.out.trans (hb4.mono (by omega))
  have HI4 := hid (HH.out.below HB4.out)
  clear o4 o13 hol hb4 HO3
  have e00 : (x2 == x2) = true := by simp
  go_wp2_with fail
  refine (num_any _ _ hwr).mono ?_
  rintro e5 w5 ⟨rfl, rfl⟩
  go_wp2_with fail
  go_ret
  exact ⟨rfl, HI4.out, HB4.out.mono hs0⟩
end Go.Proofs.YtebinaopncclgabGreatDoor
namespace Go.Proofs.YtebinaopncclgabGreatDoor
open Go.RowKit Go.IntWalk

set_option maxRecDepth 100000 in
set_option maxHeartbeats 1000000 in
theorem plays_read (w0 : World) (hb a m : Nat) (o : OpV) (ho : o.k = 8) (hou : o.u.size ≤ 1900000) (ha : a ≤ 9100000000000) (hm : m ≤ 900000000000) : PlaysBy w0 hb o a m (a + 2000000) (m + 1) := by
  intro w h hw0
  have hbb : w0.heap.size ≤ w.heap.size := hw0.size
  have HC := hid (inst_read w0 hb a m o (w.alloc (.cells o.vals 58)) ho hou (h.below (below1 w _)) ha hm (by simp; omega))
  unfold OpV.vals at HC ⊢
  rw [ho] at HC ⊢
  clear hw0
  go_enter Tryz.func19, Tryz.ntmps19
  go_wp2_with fail
  refine HC.out.mono ?_
  rintro e2 w2 ⟨rfl, hi2, hb2⟩
  have HI2 := hid hi2
  have HB2 : Hid (Below w0.heap.size w w2) := ((below1 w _).mono hbb).trans hb2
  clear hi2 hb2 HC
  go_wp2
  go_ret
  exact ⟨rfl, HI2.out, HB2.out⟩

set_option maxRecDepth 100000 in
set_option maxHeartbeats 1000000 in
theorem plays_write (w0 : World) (hb a m : Nat) (o : OpV) (kd : Nat → Int) (ra : Nat → Option Addr) (rn rc : Nat → Nat) (Q : Nat → Nat → Int) (ho : o.k = 9) (hM : NodesZ w0 o.aL o.nL kd ra rn rc Q) (hn2 : o.nL ≤ 2000000) (hrn : ∀ i, i < o.nL → rn i ≤ 2000000) (hT : TabX w0.heap.size w0) : PlaysBy w0 hb o a m (a + 2000000) (m + 1) := by
  intro w h hw0
  have hbb : w0.heap.size ≤ w.heap.size := hw0.size
  have HC := hid (inst_write w0 hb a m o kd ra rn rc Q (w.alloc (.cells o.vals 58)) ho hM (by omega) hn2 hrn hT (h.below (below1 w _)) (hw0.trans ((below1 w _).mono hbb)))
  unfold OpV.vals at HC ⊢
  rw [ho] at HC ⊢
  clear hw0 hM hrn hT
  go_enter Tryz.func19, Tryz.ntmps19
  go_wp2_with fail
  refine HC.out.mono ?_
  rintro e2 w2 ⟨rfl, hi2, hb2⟩
  have HI2 := hid (hi2.more (Nat.le_add_right a 2000000) (Nat.le_succ m))
  have HB2 : Hid (Below w0.heap.size w w2) := ((below1 w _).mono hbb).trans hb2
  clear hi2 hb2 HC
  go_wp2
  go_ret
  exact ⟨rfl, HI2.out, HB2.out⟩

set_option maxRecDepth 100000 in
set_option maxHeartbeats 1000000 in
theorem trees_walk (ao : Option Addr) (n c : Nat) (ops : Nat → OpV) (w : World) (hn : n ≤ 2000000) (hs : ScriptAt w ao n ops) (hT : TabX w.heap.size w) (hou : ∀ i, i < n → (ops i).u.size ≤ 1900000)
    (hl : ∀ i, i < n → ∃ kd ra rn rc Q, NodesZ w (ops i).aL (ops i).nL kd ra rn rc Q ∧ (ops i).nL ≤ 2000000 ∧ ∀ j, j < (ops i).nL → rn j ≤ 2000000) :
    Calls Tryz.prog 3 #[.slice ao n c] w fun e w' => e = .returned (.bool true) ∧ Below w.heap.size w w' := by
  have HC := hid (upto_walk_by 8 9 ao n c ops (fun k => k * 2000000) (fun k => k) w (by omega) hs (fun k _ => ⟨by omega, by omega⟩) (fun i hi h1 h2 => by
    have e1 : (i + 1) * 2000000 = i * 2000000 + 2000000 := by omega
    show PlaysBy w w.heap.size (ops i) (i * 2000000) i ((i + 1) * 2000000) (i + 1)
    rw [e1]
    by_cases h8 : (ops i).k = 8
    · exact plays_read _ _ _ _ _ h8 (hou i hi) (by omega) (by omega)
    · obtain ⟨kd, ra, rn, rc, Q, k1, k2, k3⟩ := hl i hi
      exact plays_write _ _ _ _ _ kd ra rn rc Q (by omega) k1 k2 k3 hT))
  clear hs hou hl hT
  go_enter Tryz.func3, Tryz.ntmps3
  go_wp2_with fail
  refine HC.out.mono ?_
  rintro e2 w2 ⟨rfl, hb2⟩
  go_wp2
  go_ret
  exact ⟨rfl, hb2⟩
end Go.Proofs.YtebinaopncclgabGreatDoor
