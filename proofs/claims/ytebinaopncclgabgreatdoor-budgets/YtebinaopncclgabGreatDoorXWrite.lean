/- Walks of the document's answer: the text of a tree is written. -/
import Derived.Test.YtebinaopncclgabGreatDoorBase
import Derived.Test.YtebinaopncclgabGreatDoorPlainD
import Derived.Test.YtebinaopncclgabGreatDoorPlainE
import Derived.Test.YtebinaopncclgabGreatDoorFrame
import Derived.Test.YtebinaopncclgabGreatDoorRefP
import Derived.Laws.BytesArg
import Derived.Test.YtebinaopncclgabGreatDoorRefC
import Derived.Test.YtebinaopncclgabGreatDoorTNum
import Derived.Test.YtebinaopncclgabGreatDoorTNode
import Derived.Test.YtebinaopncclgabGreatDoorGBase
import Derived.Test.YtebinaopncclgabGreatDoorDPlain
import Derived.Test.YtebinaopncclgabGreatDoorRefA
import Derived.Test.YtebinaopncclgabGreatDoorJArea
import Derived.Test.YtebinaopncclgabGreatDoorOnZ
import Derived.Test.YtebinaopncclgabGreatDoorGHall
import Derived.Test.YtebinaopncclgabGreatDoorGNodes
import Derived.Lib.AppendStr
namespace Go.Proofs.YtebinaopncclgabGreatDoor
open Go.RowKit Go.IntWalk

theorem retS {a b : ByteArray} (h : a = b) : Ending.returned (.string a) = .returned (.string b) := by rw [h]
theorem conv1 (W : World) (m : Nat) :
    (convert 144 9 (.slice (some ⟨W.heap.size, 0, none⟩) 1 1)).run Tryz.prog (W.alloc (.cells #[.int .u8 (48 + (m : Int) % 10)] 5)) = .ok (.string ⟨#[dg m]⟩) (W.alloc (.cells #[.int .u8 (48 + (m : Int) % 10)] 5)) := by
  have h := run_convert_bytes_arg (P := Tryz.prog) (W.alloc (.cells #[.int .u8 (48 + (m : Int) % 10)] 5)) 144 5 Tryz.underlying144 Tryz.underlying5 W.heap.size 0 1 1 [48 + (m : Int) % 10] rfl
    (by intro i hi; obtain rfl : i = 0 := by omega
        exact cell_of_row _ W.heap.size 0 _ _ (0, 0) (heap_alloc_new W _)) 9 Tryz.underlying9
  rw [h]
  have e : strOfNums [48 + (m : Int) % 10] = ⟨#[dg m]⟩ := by
    have : (48 + (m : Int) % 10).toNat = 48 + m % 10 := by omega
    simp only [strOfNums, List.map_cons, List.map_nil, this]; rfl
  rw [e]
end Go.Proofs.YtebinaopncclgabGreatDoor
namespace Go.Proofs.YtebinaopncclgabGreatDoor
open Go.RowKit Go.IntWalk

theorem getD_get {zs : List Int} {k : Nat} (h : k < zs.length) : zs.getD k 0 = zs[k] := by rw [List.getD_eq_getElem?_getD, List.getElem?_eq_getElem h]; rfl
end Go.Proofs.YtebinaopncclgabGreatDoor
namespace Go.Proofs.YtebinaopncclgabGreatDoor
open Go.RowKit Go.IntWalk

/- a row of numbers that begins anywhere in a block -/
def OffR (w : World) (v : Value) (n : Nat) (f : Nat → Int) : Prop :=
  ∃ ao c, v = .slice ao n c ∧ ∀ j, j < n → ∃ b o, ao = some ⟨b, o, none⟩ ∧ b < w.heap.size ∧ w.cell? ⟨b, o + j, none⟩ = some (.int .i64 (f j))
end Go.Proofs.YtebinaopncclgabGreatDoor
namespace Go.Proofs.YtebinaopncclgabGreatDoor
open Go.RowKit Go.IntWalk

set_option maxRecDepth 100000 in
set_option maxHeartbeats 1000000 in
theorem letterOf_any (k : Int) (w : World) (h : 1 ≤ k ∧ k ≤ 4) : Calls Tryz.prog 150 #[.int .i64 k] w fun e w' => e = .returned (.string ⟨#[letT k]⟩) ∧ w' = w := by
  have : k = 1 ∨ k = 2 ∨ k = 3 ∨ k = 4 := by omega
  rcases this with rfl | rfl | rfl | rfl
  all_goals
    go_enter Tryz.func150, Tryz.ntmps150
    go_wp2
    go_ret
    exact ⟨rfl, rfl⟩
set_option maxRecDepth 100000 in
set_option maxHeartbeats 1000000 in
theorem countBig_any (k : Int) (n : Nat) (w : World) (hn : n ≤ 4000000) : Calls Tryz.prog 199 #[.int .i64 k, .int .i64 n] w fun e w' => e = .returned (.bool (cntT k n)) ∧ w' = w := by
  by_cases h1 : k = 1
  · subst h1
    go_enter Tryz.func199, Tryz.ntmps199
    go_wp2
    all_goals
      go_ret
      refine ⟨retB ?_, rfl⟩
      rw [Bool.eq_iff_iff]; simp [cntT]; try omega
  have e1 : (k == 1) = false := by simpa using h1
  by_cases h2 : k = 2
  · subst h2
    go_enter Tryz.func199, Tryz.ntmps199
    go_wp2
    all_goals
      go_ret
      refine ⟨retB ?_, rfl⟩
      rw [Bool.eq_iff_iff]; simp [cntT]; try omega
  have e2 : (k == 2) = false := by simpa using h2
  by_cases h3 : k = 3
  · subst h3
    go_enter Tryz.func199, Tryz.ntmps199
    go_wp2
    all_goals
      go_ret
      refine ⟨retB ?_, rfl⟩
      rw [Bool.eq_iff_iff]; simp [cntT]; try omega
  have e3 : (k == 3) = false := by simpa using h3
  by_cases h4 : k = 4
  · subst h4
    go_enter Tryz.func199, Tryz.ntmps199
    go_wp2
    all_goals
      go_ret
      refine ⟨retB ?_, rfl⟩
      rw [Bool.eq_iff_iff]; simp [cntT]; try omega
  have e4 : (k == 4) = false := by simpa using h4
  go_enter Tryz.func199, Tryz.ntmps199
  go_wp2
  go_ret
  exact ⟨by simp [cntT, h1, h2, h3, h4], rfl⟩
/- a list of numbers that begins anywhere in a block -/
def ListO (w : World) (v : Value) (zs : List Int) : Prop := OffR w v zs.length fun j => zs.getD j 0
def okZ (z : Int) : Bool := decide (-100000000 ≤ z) && decide (z ≤ 100000000)
theorem nodeOk_eq (k : Int) (zs : List Int) : nodeOkT (k, zs) = (cntT k zs.length && zs.all okZ) := rfl
theorem all_take {zs : List Int} {k : Nat} (h : k < zs.length) : (zs.take (k + 1)).all okZ = ((zs.take k).all okZ && okZ (zs.getD k 0)) := by
  rw [List.take_succ_eq_append_getElem h, List.all_append, getD_get h]; simp

set_option maxRecDepth 100000 in
set_option maxHeartbeats 4000000 in
theorem isNode_any (k : Int) (zs : List Int) (v : Value) (w : World) (hl : zs.length ≤ 2000000) (hr : ListO w v zs) :
    Calls Tryz.prog 148 #[.agg #[.int .i64 k, v]] w fun e w' => e = .returned (.bool (nodeOkT (k, zs))) ∧ Below w.heap.size w w' := by
  obtain ⟨ao, c, rfl, hr⟩ := hr
  have HR := hid hr
  have HCF := hid (fun W => countBig_any k zs.length W (by omega))
  have HEQ := hid (nodeOk_eq k zs)
  generalize nodeOkT (k, zs) = ans at *
  generalize cntT k zs.length = b0 at *
  clear hr
  cases b0 with
  | false =>
    go_enter Tryz.func148, Tryz.ntmps148
    go_wp2_with fail
    refine (HCF.out _).mono ?_
    rintro e1 w1 ⟨rfl, rfl⟩
    go_wp2_with fail
    go_ret
    exact ⟨ret_bool HEQ.out.symm, below1 w _⟩
  | true =>
    rw [Bool.true_and] at HEQ
    obtain ⟨W, hW⟩ : ∃ W, W = w.alloc (.cells #[.int .i64 k, .slice ao zs.length c] 76) := ⟨_, rfl⟩
    have HBW : Hid (Below w.heap.size w W) := by show Below _ _ _; rw [hW]; exact below1 w _
    have hbx : W.heap[w.heap.size]? = some (.cells #[.int .i64 k, .slice ao zs.length c] 76 (0, 0)) := by rw [hW]; exact heap_alloc_new w _
    have HBX := hid hbx
    have HWQ := hid hW
    clear hW hbx
    go_enter Tryz.func148, Tryz.ntmps148
    go_wp2_with fail
    refine (HCF.out _).mono ?_
    rintro e1 w1 ⟨rfl, rfl⟩
    rw [← HWQ.out]
    go_wp2_with fail
    go_loopw [3] (fun i wr => ∃ m : Nat, i = .int .i64 m ∧ m ≤ zs.length ∧ Hid ((zs.take m).all okZ = true) ∧ Hid (Below W.heap.size W wr)) (fun i _ => zs.length - (intOf i).toNat)
    case atStart => exact ⟨0, rfl, Nat.zero_le _, rfl, Below.refl _ _⟩
    case round =>
      obtain ⟨m, rfl, hm, HF, HB⟩ := hrel
      have hlW : w.heap.size < W.heap.size := (Array.getElem?_eq_some_iff.1 HBX.out).1
      have hb1 := (HB.out.block _ hlW).trans HBX.out
      have p1 : wr.cell? ⟨w.heap.size, 1, none⟩ = some (.slice ao zs.length c) := cell_of_row wr _ 1 _ _ _ hb1
      have lw : w.heap.size < wr.heap.size := (Array.getElem?_eq_some_iff.1 hb1).1
      clear hb1
      by_cases hlt : m < zs.length
      · obtain ⟨b, o, rfl, hbl, hz⟩ := HR.out m hlt
        have x0 : wr.cell? ⟨b, o + m, none⟩ = _ := (HB.out.cell (by exact Nat.lt_of_lt_of_le hbl HBW.out.size)).trans ((HBW.out.cell (by exact hbl)).trans hz)
        have lb : b < wr.heap.size := Nat.lt_of_lt_of_le (Nat.lt_of_lt_of_le hbl HBW.out.size) HB.out.size
        have HAT := hid (all_take hlt)
        have HMM : Hid (zs.getD m 0 ∈ zs) := getD_mem hlt
        generalize zs.getD m 0 = z at *
        have im : (0 : Int) ≤ (m : Int) := by omega
        have jm : (m : Int) < (zs.length : Int) := by omega
        clear hz
        by_cases h1 : z < -100000000
        · have e1 : decide (z < -100000000) = true := by simpa using h1
          have HD : Hid (ans = false) := by
            show _ = _
            rw [HEQ.out, List.all_eq_false]
            exact ⟨z, HMM.out, by unfold okZ; simp; omega⟩
          clear h1
          go_wp2_with fail
          go_ret
          exact ⟨ret_bool HD.out.symm, HBW.out.trans (HB.out.mono HBW.out.size)⟩
        · have e1 : decide (z < -100000000) = false := by simpa using h1
          by_cases h2 : 100000000 < z
          · have e2 : decide (100000000 < z) = true := by simpa using h2
            have HD : Hid (ans = false) := by
              show _ = _
              rw [HEQ.out, List.all_eq_false]
              exact ⟨z, HMM.out, by unfold okZ; simp; omega⟩
            clear h1 h2
            go_wp2_with fail
            go_ret
            exact ⟨ret_bool HD.out.symm, HBW.out.trans (HB.out.mono HBW.out.size)⟩
          · have e2 : decide (100000000 < z) = false := by simpa using h2
            have HF2 : Hid ((zs.take (m + 1)).all okZ = true) := by
              show _ = _
              rw [HAT.out, HF.out]
              unfold okZ; simp; omega
            clear h1 h2
            go_wp2_with fail
            exact ⟨⟨m + 1, by go_num, by omega, HF2, HB⟩, by simp [intOf]; omega⟩
      · have HD : Hid (ans = true) := by
          show _ = _
          have := HF.out
          rw [List.take_of_length_le (by omega)] at this
          rw [HEQ.out, this]
        go_wp2_with fail
        go_ret
        exact ⟨ret_bool HD.out.symm, HBW.out.trans (HB.out.mono HBW.out.size)⟩
end Go.Proofs.YtebinaopncclgabGreatDoor
namespace Go.Proofs.YtebinaopncclgabGreatDoor
open Go.RowKit Go.IntWalk

/- nodes in memory, wherever they begin -/
def TreeO (w : World) (v : Value) (L : List NodeT) : Prop :=
  ∃ ao c, v = .slice ao L.length c ∧ ∀ i (h : i < L.length), ∃ b o ai ci, ao = some ⟨b, o, none⟩ ∧ b < w.heap.size ∧ w.cell? ⟨b, o + i * 2, none⟩ = some (.int .i64 L[i].1) ∧ w.cell? ⟨b, o + i * 2 + 1, none⟩ = some (.slice ai L[i].2.length ci) ∧ ListO w (.slice ai L[i].2.length ci) L[i].2
theorem TreeO.below {w w' : World} {v : Value} {L : List NodeT} (h : TreeO w v L) (hb : Below w.heap.size w w') : TreeO w' v L := by
  obtain ⟨ao, c, h1, h2⟩ := h
  refine ⟨ao, c, h1, fun i hi => ?_⟩
  obtain ⟨b, o, ai, ci, k1, k2, k3, k4, k5⟩ := h2 i hi
  refine ⟨b, o, ai, ci, k1, Nat.lt_of_lt_of_le k2 hb.size, (hb.cell (by exact k2)).trans k3, (hb.cell (by exact k2)).trans k4, ?_⟩
  obtain ⟨a, c, e1, e2⟩ := k5
  refine ⟨a, c, e1, fun j hj => ?_⟩
  obtain ⟨b', o', m1, m2, m3⟩ := e2 j hj
  exact ⟨b', o', m1, Nat.lt_of_lt_of_le m2 hb.size, (hb.cell (by exact m2)).trans m3⟩
theorem ListO.below {w w' : World} {v : Value} {zs : List Int} (h : ListO w v zs) (hb : Below w.heap.size w w') : ListO w' v zs := by
  obtain ⟨a, c, e1, e2⟩ := h
  refine ⟨a, c, e1, fun j hj => ?_⟩
  obtain ⟨b', o', m1, m2, m3⟩ := e2 j hj
  exact ⟨b', o', m1, Nat.lt_of_lt_of_le m2 hb.size, (hb.cell (by exact m2)).trans m3⟩
theorem tree_drop {L : List NodeT} {k o : Nat} (h : k < L.length) : treeT o (L.drop k) = (o != 0 && nodeOkT L[k] && treeT (nextT o L[k].1) (L.drop (k + 1))) := by
  rw [List.drop_eq_getElem_cons h]; rfl

set_option maxRecDepth 100000 in
set_option maxHeartbeats 4000000 in
theorem isTree_any (L : List NodeT) (v : Value) (w : World) (hL : L.length ≤ 100000000000) (hl : ∀ nd ∈ L, nd.2.length ≤ 2000000) (hr : TreeO w v L) :
    Calls Tryz.prog 91 #[v] w fun e w' => e = .returned (.bool (treeT 1 L)) ∧ Below w.heap.size w w' := by
  have HR := hid hr
  have HL := hid hl
  obtain ⟨ao, c, rfl, _⟩ := hr
  clear hl
  have HEQ : Hid (treeT 1 L = treeT 1 (L.drop 0)) := by show _ = _; simp
  generalize treeT 1 L = ans at *
  go_enter Tryz.func91, Tryz.ntmps91
  go_wp2_with fail
  go_loopw [3, 4] (fun lf i wr => ∃ k o : Nat, i = .int .i64 k ∧ lf = .int .i64 o ∧ k ≤ L.length ∧ o ≤ k + 1 ∧ Hid (ans = treeT o (L.drop k)) ∧ Hid (Below w.heap.size w wr)) (fun _ i _ => L.length - (intOf i).toNat)
  case atStart => exact ⟨0, 1, rfl, rfl, Nat.zero_le _, by omega, HEQ, Below.refl _ _⟩
  case round =>
    obtain ⟨k, o, rfl, rfl, hk, ho, HG, HB⟩ := hrel
    by_cases hlt : k < L.length
    · obtain ⟨ao', c', hv, hz⟩ := HR.out.below HB.out
      cases hv
      obtain ⟨b, off, ai, ci, rfl, hbl, x0, x1, hli⟩ := hz k hlt
      have HTD : Hid (ans = (o != 0 && nodeOkT L[k] && treeT (nextT o L[k].1) (L.drop (k + 1)))) := by show _ = _; rw [HG.out, tree_drop hlt]
      have hln := HL.out _ (List.getElem_mem hlt)
      generalize L[k] = nd at *
      obtain ⟨kd, zs⟩ := nd
      dsimp only at *
      have HIN : Hid (∀ W, Below wr.heap.size wr W → Calls Tryz.prog 148 #[.agg #[.int .i64 kd, .slice ai zs.length ci]] W fun e w' => e = .returned (.bool (nodeOkT (kd, zs))) ∧ w'.cell? ⟨b, off + k * 2, none⟩ = some (.int .i64 kd) ∧ w'.cell? ⟨b, off + k * 2 + 1, none⟩ = some (.slice ai zs.length ci) ∧ Hid (Below wr.heap.size wr w')) := fun W hW => by
        refine (isNode_any kd zs _ W hln (hli.below hW)).mono ?_
        rintro e w' ⟨h1, h2⟩
        have h3 : Below wr.heap.size wr w' := hW.trans (h2.mono hW.size)
        exact ⟨h1, (h3.cell (by exact hbl)).trans x0, (h3.cell (by exact hbl)).trans x1, h3⟩
      have ik : (0 : Int) ≤ (k : Int) := by omega
      have jk : (k : Int) < (L.length : Int) := by omega
      generalize nodeOkT (kd, zs) = bn at *
      clear hz HG
      by_cases h0 : o = 0
      · have HD : Hid (ans = false) := by show _ = _; rw [HTD.out, h0]; rfl
        have e0 : ((o : Int) == 0) = true := by simpa using h0
        clear h0 HTD
        go_wp2_with fail
        go_ret
        exact ⟨ret_bool HD.out.symm, HB.out⟩
      · have e0 : ((o : Int) == 0) = false := by simpa using h0
        have e0' : (o != 0) = true := by simpa using h0
        rw [e0', Bool.true_and] at HTD
        cases bn with
        | false =>
          have HD : Hid (ans = false) := by show _ = _; rw [HTD.out]; rfl
          clear h0 HTD
          go_wp2_with fail
          refine (HIN.out _ (Below.refl _ _)).mono ?_
          rintro e1 w1 ⟨rfl, _, _, HB1⟩
          have HBB : Hid (Below w.heap.size w w1) := HB.out.trans (HB1.out.mono HB.out.size)
          clear HIN HB1
          go_wp2_with fail
          go_ret
          exact ⟨ret_bool HD.out.symm, HBB.out⟩
        | true =>
          rw [Bool.true_and] at HTD
          have HMI := hid (fun W => missing_any o kd W (by omega) (by omega))
          have HNX : Hid (nextT o kd ≤ o + 1) := by show _ ≤ _; unfold nextT; split <;> omega
          clear h0
          go_wp2_with fail
          refine (HIN.out _ (Below.refl _ _)).mono ?_
          rintro e1 w1 ⟨rfl, y0, y1, HB1⟩
          have HBB : Hid (Below w.heap.size w w1) := HB.out.trans (HB1.out.mono HB.out.size)
          have lb : b < w1.heap.size := Nat.lt_of_lt_of_le hbl HB1.out.size
          clear HIN HB1 x0 x1
          go_wp2_with fail
          refine (HMI.out _).mono ?_
          rintro e2 w2 ⟨rfl, rfl⟩
          clear HMI
          go_wp2_with fail
          go_roundw
          case rel => exact ⟨k + 1, nextT o kd, by go_num, rfl, by omega, by have := HNX.out; omega, HTD, HBB⟩
          case measure => simp [intOf]; omega
    · obtain rfl : k = L.length := by omega
      have HD : Hid (ans = (o == 0)) := by show _ = _; rw [HG.out, List.drop_length]; rfl
      by_cases h0 : o = 0
      · have e0 : ((o : Int) == 0) = true := by simpa using h0
        have HD2 : Hid (ans = true) := by show _ = _; rw [HD.out, h0]; rfl
        clear h0 HD
        go_wp2_with fail
        go_ret
        exact ⟨ret_bool HD2.out.symm, HB.out⟩
      · have e0 : ((o : Int) == 0) = false := by simpa using h0
        have HD2 : Hid (ans = false) := by show _ = _; rw [HD.out]; simpa using h0
        clear h0 HD
        go_wp2_with fail
        go_ret
        exact ⟨ret_bool HD2.out.symm, HB.out⟩
end Go.Proofs.YtebinaopncclgabGreatDoor
namespace Go.Proofs.YtebinaopncclgabGreatDoor
open Go.RowKit Go.IntWalk

def wrdsT (zs : List Int) : List UInt8 := (zs.map fun z => 32 :: decT z).flatten
theorem wrdsT_snoc {zs : List Int} {m : Nat} (h : m < zs.length) : wrdsT (zs.take (m + 1)) = wrdsT (zs.take m) ++ (32 :: decT zs[m]) := by
  unfold wrdsT
  rw [List.take_succ_eq_append_getElem h, List.map_append, List.flatten_append]
  simp only [List.map_cons, List.map_nil, List.flatten_cons, List.flatten_nil, List.append_nil]
theorem body_wrds (nd : NodeT) : bodyT nd = letT nd.1 :: wrdsT nd.2 := rfl
end Go.Proofs.YtebinaopncclgabGreatDoor
namespace Go.Proofs.YtebinaopncclgabGreatDoor
open Go.RowKit Go.IntWalk Go.Lib

theorem Tryz.infoU8 : (Tryz.prog.info? 5).map (fun i => (i.zero, i.size, i.bytes)) = some (some (.int .u8 0), 1, 1) := by kernel_rfl
/- bytes of one's own, as a text -/
theorem conv_own {w : World} {B : Nat} {v : Value} {t : List UInt8} (h : w.ownsRow B 5 1 v t.length (strCells ⟨t.toArray⟩)) : (convert 144 9 v).run Tryz.prog w = .ok (.string ⟨t.toArray⟩) w := by
  rcases h.2 with ⟨rfl, h0⟩ | ⟨g, cap, cur, rfl, hb, hg, _⟩
  · have ht : t = [] := List.eq_nil_of_length_eq_zero h0
    subst ht
    exact run_convert_bytes_nil w 144 5 Tryz.underlying144 Tryz.underlying5 0 0 9 Tryz.underlying9
  · have hr := run_convert_bytes_arg (P := Tryz.prog) w 144 5 Tryz.underlying144 Tryz.underlying5 g 0 t.length cap (t.map fun b => (b.toNat : Int)) (by simp) (fun i hi => by
      rw [Nat.zero_add, h.cellAt i (by omega)]
      simp [strCells, List.getD_eq_getElem?_getD, hi]) 9 Tryz.underlying9
    rw [hr]
    have e : strOfNums (t.map fun b => (b.toNat : Int)) = ⟨t.toArray⟩ := by
      apply ByteArray.ext
      apply Array.toList_inj.1
      rw [strOfNums_data]
      simp [Function.comp_def]
    rw [e]
theorem flat_len {zs : List Int} (h : ∀ z ∈ zs, -100000000 ≤ z ∧ z ≤ 100000000) : (wrdsT zs).length ≤ 11 * zs.length := by
  induction zs with
  | nil => simp [wrdsT]
  | cons z zs ih =>
    have h1 := decT_len (h z (by simp)).1 (h z (by simp)).2
    have h2 := ih (fun y hy => h y (by simp [hy]))
    unfold wrdsT at h2 ⊢
    simp only [List.map_cons, List.flatten_cons, List.length_append, List.length_cons]
    omega
theorem line_len {nd : NodeT} (h : nodeOkT nd = true) : (lineT nd).length ≤ 230 := by
  obtain ⟨h1, h2⟩ := nodeOk_parts h
  have h3 := flat_len h2
  have h4 := cntT_kind h1
  unfold lineT
  rw [body_wrds]
  simp only [List.length_append, List.length_cons, List.length_nil]
  omega

theorem str_app (a b : List UInt8) : strCells ⟨(a ++ b).toArray⟩ = strCells ⟨a.toArray⟩ ++ strCells ⟨b.toArray⟩ := by simp [strCells]
theorem text_snoc {L : List NodeT} {k : Nat} (h : k < L.length) : textT (L.take (k + 1)) = textT (L.take k) ++ lineT L[k] := by
  unfold textT
  rw [List.take_succ_eq_append_getElem h, List.map_append, List.flatten_append]
  simp only [List.map_cons, List.map_nil, List.flatten_cons, List.flatten_nil, List.append_nil]

end Go.Proofs.YtebinaopncclgabGreatDoor
