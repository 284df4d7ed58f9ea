/- Walks of the statements: trees that are lent, and kept. -/
import Derived.Test.YtebinaopncclgabGreatDoorLentS
import Derived.Test.YtebinaopncclgabGreatDoorXTree
import Derived.Test.YtebinaopncclgabGreatDoorTRead
import Derived.Test.YtebinaopncclgabGreatDoorOpenA
import Derived.Lib.SliceRun
namespace Go.Proofs.YtebinaopncclgabGreatDoor
open Go.RowKit Go.IntWalk

theorem own_row2 {w : World} {B g n c : Nat} {e : TypeId} {xs : List Value} (h : w.ownsRow B e 2 (.slice (some ⟨g, 0, none⟩) n c) n xs) : B ≤ g ∧ ∃ cur, w.heap[g]? = some (.cells cur e (0, 0)) ∧ cur.size = c * 2 := by
  rcases h.2 with ⟨hh, _⟩ | ⟨g', cap, cur, hv, hb, hg, _, _, hz, ht⟩
  · cases hh
  · cases hv
    exact ⟨hb, cur, hg, hz⟩

theorem some_at {W : World} {g k : Nat} {cs : Array Value} {t : TypeId} (h : W.heap[g]? = some (.cells cs t (0, 0))) (hk : k < cs.size) : ∃ v, W.cell? ⟨g, k, none⟩ = some v := ⟨cs[k], by rw [cell_of_row _ _ _ _ _ _ h, Array.getElem?_eq_getElem hk]⟩
theorem name_at (a : Addr) : ∃ F : World → Value, ∀ W, (∃ v, W.cell? a = some v) → W.cell? a = some (F W) := ⟨fun W => (W.cell? a).getD (.int .i64 0), fun W ⟨v, h⟩ => by simp [h]⟩

/- a tree that was lent -/
def LentT (w : World) (B g n : Nat) (kd : Nat → Int) (G : Nat → Nat) (rn : Nat → Nat) (Q : Nat → Nat → Int) : Prop :=
  (∃ cs, B ≤ g ∧ w.heap[g]? = some (.cells cs 76 (0, 0)) ∧ cs.size = (n + 1) * 2 ∧ (∀ i, i < n → cs[i * 2]? = some (.int .i64 (kd i)) ∧ cs[i * 2 + 1]? = some (.slice (some ⟨G i, 0, none⟩) (rn i) (rn i + 2))) ∧ cs[n * 2]? = some (.int .i64 77) ∧ cs[n * 2 + 1]? = some (.slice none 0 0)) ∧ ∀ i, i < n → B ≤ G i ∧ LentI w (G i) (rn i) (Q i)
theorem LentT.keep {w w' : World} {B g n : Nat} {kd : Nat → Int} {G rn : Nat → Nat} {Q : Nat → Nat → Int} (h : LentT w B g n kd G rn Q) (hk : ∀ q, B ≤ q → q < w.heap.size → w'.heap[q]? = w.heap[q]?) : LentT w' B g n kd G rn Q := by
  obtain ⟨⟨cs, b1, h1, h2, h3, h4, h5⟩, h6⟩ := h
  exact ⟨⟨cs, b1, by rw [hk _ b1 (Array.getElem?_eq_some_iff.1 h1).1]; exact h1, h2, h3, h4, h5⟩, fun i hi => ⟨(h6 i hi).1, (h6 i hi).2.block (hk _ (h6 i hi).1 (h6 i hi).2.lt)⟩⟩
theorem LentT.below {w w' : World} {B g n : Nat} {kd : Nat → Int} {G rn : Nat → Nat} {Q : Nat → Nat → Int} (h : LentT w B g n kd G rn Q) (hb : Below w.heap.size w w') : LentT w' B g n kd G rn Q := h.keep fun q _ hq => hb.block q hq
/- the tree as a list of nodes -/
def treeL (n : Nat) (kd : Nat → Int) (rn : Nat → Nat) (Q : Nat → Nat → Int) : List NodeT := (List.range n).map fun i => (kd i, (List.range (rn i)).map (Q i))
theorem treeL_len (n : Nat) (kd : Nat → Int) (rn : Nat → Nat) (Q : Nat → Nat → Int) : (treeL n kd rn Q).length = n := by simp [treeL]
theorem treeL_at {n i : Nat} {kd : Nat → Int} {rn : Nat → Nat} {Q : Nat → Nat → Int} (h : i < (treeL n kd rn Q).length) : (treeL n kd rn Q)[i] = (kd i, (List.range (rn i)).map (Q i)) := by simp [treeL]
theorem listO_of {w : World} {a : Option Addr} {n c : Nat} {q : Nat → Int} (h : RowZ w a n q) : ListO w (.slice a n c) ((List.range n).map q) := by
  refine ⟨a, c, by simp, fun j hj => ?_⟩
  have hj' : j < n := by simpa using hj
  obtain ⟨b, o, h1, h2, h3⟩ := h (by omega)
  exact ⟨b, o, h1, h2, by rw [h3 j hj']; simp [hj']⟩
theorem LentT.tree {w : World} {B g n c : Nat} {kd : Nat → Int} {G rn : Nat → Nat} {Q : Nat → Nat → Int} (h : LentT w B g n kd G rn Q) : TreeO w (.slice (some ⟨g, 0, none⟩) n c) (treeL n kd rn Q) := by
  obtain ⟨⟨cs, b1, h1, h2, h3, h4, h5⟩, h6⟩ := h
  refine ⟨some ⟨g, 0, none⟩, c, by rw [treeL_len], fun i hi => ?_⟩
  have hi' : i < n := by rw [treeL_len] at hi; exact hi
  rw [treeL_at hi]
  simp only [List.length_map, List.length_range]
  refine ⟨g, 0, some ⟨G i, 0, none⟩, rn i + 2, rfl, (Array.getElem?_eq_some_iff.1 h1).1, ?_, ?_, listO_of (h6 i hi').2.row⟩
  · rw [cell_of_row _ _ _ _ _ _ h1, Nat.zero_add]; exact (h3 i hi').1
  · rw [cell_of_row _ _ _ _ _ _ h1, Nat.zero_add]; exact (h3 i hi').2
theorem NodesZ.tree {w : World} {ao : Option Addr} {n c : Nat} {kd : Nat → Int} {ra : Nat → Option Addr} {rn rc : Nat → Nat} {Q : Nat → Nat → Int} (h : NodesZ w ao n kd ra rn rc Q) : TreeO w (.slice ao n c) (treeL n kd rn Q) := by
  refine ⟨ao, c, by rw [treeL_len], fun i hi => ?_⟩
  have hi' : i < n := by rw [treeL_len] at hi; exact hi
  obtain ⟨b, o, h1, h2, h3⟩ := h (by omega)
  obtain ⟨k0, _, k1, _, k3⟩ := h3 i hi'
  rw [treeL_at hi]
  simp only [List.length_map, List.length_range]
  exact ⟨b, o, ra i, rc i, h1, h2, k0, k1, listO_of fun h0 => by obtain ⟨b', o', m1, m2, m3⟩ := k3 h0; exact ⟨b', o', m1, m2, fun j hj => (m3 j hj).1⟩⟩

set_option maxRecDepth 100000 in
set_option maxHeartbeats 4000000 in
theorem lentTree_any (ao : Option Addr) (n c : Nat) (kd : Nat → Int) (ra : Nat → Option Addr) (rn rc : Nat → Nat) (Q : Nat → Nat → Int) (w : World) (hn : n * 32 ≤ 140737488355328) (hrn : ∀ i, i < n → rn i * 8 ≤ 140737488355328) (hl : NodesZ w ao n kd ra rn rc Q) :
    Calls Tryz.prog 72 #[.slice ao n c] w fun e w' => ∃ g G, e = .returned (.slice (some ⟨g, 0, none⟩) n (n + 1)) ∧ LentT w' w.heap.size g n kd G rn Q ∧ Below w.heap.size w w' := by
  obtain ⟨i0, hi, hz0, hz1, hz2⟩ := info_parts Tryz.infoNode
  have HL := hid hl
  have HRN := hid hrn
  clear hl hrn
  have hn' : n ≤ 4398046511104 := by omega
  go_enter Tryz.func72, Tryz.ntmps72
  go_wp2_with (refine wpList_make_full _ rfl _ _ 56 rfl w.heap.size 76 i0 (.agg #[.int .i64 0, .slice none 0 0]) 2 Tryz.underlying56 hi hz0 hz1 .i64 .i64 _ _ (n + 1) rfl rfl ?a1 ?a2 ?a3 ?a4 ?a5 ?_)
  case a1 => omega
  case a2 => omega
  case a3 => rw [hz2]; omega
  case a4 => unfold maxLen; omega
  case a5 => exact Nat.le_refl _
  intro w1 hown1 hgr1
  obtain ⟨_, cur1, hg1, hs1⟩ := own_row2 (g := w.heap.size) (by simpa using hown1)
  have hb1 : Below w.heap.size w w1 := (Below.refl _ _).grown hgr1 (Nat.le_refl _) (by simp)
  have HB1 := hid hb1
  have HG1 : Hid (∃ cs, w1.heap[w.heap.size]? = some (.cells cs 76 (0, 0)) ∧ cs.size = (n + 1) * 2 ∧ ∀ i, i < 0 → cs[i * 2]? = some (.int .i64 (kd i)) ∧ cs[i * 2 + 1]? = some (.slice (some ⟨(fun _ => 0) i, 0, none⟩) (rn i) (rn i + 2))) := ⟨cur1, hg1, by simpa using hs1, fun i h => absurd h (by omega)⟩
  clear hown1 hgr1 hb1 hg1 hs1
  go_wp2_with fail
  go_loopw [4] (fun i wr => ∃ (k : Nat) (G : Nat → Nat), k ≤ n ∧ i = .int .i64 k ∧ Hid (∃ cs, wr.heap[w.heap.size]? = some (.cells cs 76 (0, 0)) ∧ cs.size = (n + 1) * 2 ∧ ∀ i, i < k → cs[i * 2]? = some (.int .i64 (kd i)) ∧ cs[i * 2 + 1]? = some (.slice (some ⟨G i, 0, none⟩) (rn i) (rn i + 2))) ∧ Hid (∀ i, i < k → w.heap.size < G i ∧ LentI wr (G i) (rn i) (Q i)) ∧ Hid (Below w.heap.size w wr)) (fun i _ => n - (intOf i).toNat)
  case atStart => exact ⟨0, fun _ => 0, Nat.zero_le _, rfl, HG1, fun i h => absurd h (by omega), HB1⟩
  case round =>
    clear HG1 HB1
    obtain ⟨k, G, hk, rfl, HG, HLI, HB⟩ := hrel
    obtain ⟨cs, hcs, hsz, hcp⟩ := HG.out
    have HCS := hid hcs
    have hgl : w.heap.size < wr.heap.size := (Array.getElem?_eq_some_iff.1 hcs).1
    by_cases hlt : k < n
    · obtain ⟨b, o, rfl, hbl, hrow⟩ := HL.out (by omega)
      obtain ⟨hk0, hk1, hr0, hr1, hr2⟩ := hrow k hlt
      have x0 : wr.cell? ⟨b, o + k * 2 + 1, none⟩ = _ := (HB.out.cell (by exact hbl)).trans hr0
      have xk : wr.cell? ⟨b, o + k * 2, none⟩ = _ := (HB.out.cell (by exact hbl)).trans hk0
      have x1 : b < wr.heap.size := Nat.lt_of_lt_of_le hbl HB.out.size
      have hne : ¬ b = w.heap.size := by omega
      have ik : (0 : Int) ≤ (k : Int) := by omega
      have jk : (k : Int) < (n : Int) := by omega
      have jk1 : (k : Int) < (n : Int) + 1 := by omega
      obtain ⟨RA, hRA⟩ : ∃ RA, RA = ra k := ⟨_, rfl⟩
      obtain ⟨RN, hRN⟩ : ∃ RN, RN = rn k := ⟨_, rfl⟩
      obtain ⟨RC, hRC⟩ : ∃ RC, RC = rc k := ⟨_, rfl⟩
      obtain ⟨KD, hKD⟩ : ∃ KD, KD = kd k := ⟨_, rfl⟩
      rw [← hRA, ← hRN, ← hRC] at x0
      rw [← hKD] at xk
      obtain ⟨F, hF⟩ := name_at ⟨w.heap.size, k * 2, none⟩
      obtain ⟨F', hF'⟩ := name_at ⟨w.heap.size, k * 2 + 1, none⟩
      have HF := hid hF
      have HF' := hid hF'
      have y1 := hF wr (some_at hcs (by omega))
      have y2 := hF' wr (some_at hcs (by omega))
      clear hF hF'
      have HC : Hid (∀ W, Below wr.heap.size wr W → Calls Tryz.prog 111 #[.slice RA RN RC] W fun e w' => ∃ g, e = .returned (.slice (some ⟨g, 0, none⟩) RN (RN + 2)) ∧ (w'.cell? ⟨b, o + k * 2, none⟩ = some (.int .i64 KD) ∧ w'.cell? ⟨b, o + k * 2 + 1, none⟩ = some (.slice RA RN RC) ∧ w'.cell? ⟨w.heap.size, k * 2, none⟩ = some (F w') ∧ w'.cell? ⟨w.heap.size, k * 2 + 1, none⟩ = some (F' w') ∧ w'.frozen? ⟨w.heap.size, k * 2, none⟩ = false ∧ w'.frozen? ⟨w.heap.size, k * 2 + 1, none⟩ = false) ∧ wr.heap.size ≤ g ∧ LentI w' g RN (Q k) ∧ Below wr.heap.size wr w') := by
        intro W hW
        have hWr : RowZ W (ra k) (rn k) (Q k) := fun h0 => by
          obtain ⟨b', o', m1, m2, m3⟩ := hr2 h0
          have hwW := HB.out.trans (hW.mono HB.out.size)
          exact ⟨b', o', m1, Nat.lt_of_lt_of_le m2 hwW.size, fun j hj => (hwW.cell (by exact m2)).trans (m3 j hj).1⟩
        rw [hRA, hRN, hRC]
        refine (lentI_any (ra k) (rn k) (rc k) (Q k) W (HRN.out k hlt) hWr).mono ?_
        rintro e3 w3 ⟨g, rfl, h1, h2, h3⟩
        have hbw : Below wr.heap.size wr w3 := hW.trans (h3.mono hW.size)
        have hcs3 : w3.heap[w.heap.size]? = some (.cells cs 76 (0, 0)) := (hbw.block _ hgl).trans HCS.out
        refine ⟨g, rfl, ⟨(hbw.cell (by exact x1)).trans xk, ?_, HF.out _ (some_at hcs3 (by omega)), HF'.out _ (some_at hcs3 (by omega)), frozen_of_row w3 _ _ _ _ hcs3, frozen_of_row w3 _ _ _ _ hcs3⟩, Nat.le_trans hW.size h1, h2, hbw⟩
        rw [← hRA, ← hRN, ← hRC]; exact (hbw.cell (by exact x1)).trans x0
      have f1 : wr.frozen? ⟨w.heap.size, k * 2, none⟩ = false := frozen_of_row wr _ _ _ _ hcs
      have f2 : wr.frozen? ⟨w.heap.size, k * 2 + 1, none⟩ = false := frozen_of_row wr _ _ _ _ hcs
      have HRK := hid hRN
      have HKK := hid hKD
      have HSZ := hid hsz
      clear hcs hrow hr0 hr1 hr2 hk0 hk1 hcp hRA hRN hRC hKD hsz
      go_wp2_with fail
      go_region_held3 (fun w' => w'.cell? ⟨b, o + k * 2, none⟩ = some (.int .i64 KD) ∧ w'.cell? ⟨b, o + k * 2 + 1, none⟩ = some (.slice RA RN RC) ∧ w'.cell? ⟨w.heap.size, k * 2, none⟩ = some (F w') ∧ w'.cell? ⟨w.heap.size, k * 2 + 1, none⟩ = some (F' w') ∧ w'.frozen? ⟨w.heap.size, k * 2, none⟩ = false ∧ w'.frozen? ⟨w.heap.size, k * 2 + 1, none⟩ = false) (refine ⟨?_, ?_, ?_, ?_, ?_, ?_⟩ <;> first
        | assumption
        | (go_keep; done)
        | exact HF.out _ (some_at (cs := cs) HCS.out (by have := HSZ.out; omega))
        | exact HF'.out _ (some_at (cs := cs) HCS.out (by have := HSZ.out; omega))
        | exact (cell_aside _ _ hne).trans ((cell_aside _ _ hne).trans ((hb3.cell (by exact x1)).trans xk))
        | exact (cell_aside _ _ hne).trans ((cell_aside _ _ hne).trans ((hb3.cell (by exact x1)).trans x0))
        | exact HF.out _ (some_at (heap_setCell_same _ w.heap.size (k * 2 + 1) _ _ (.slice (some ⟨g, 0, none⟩) RN (RN + 2)) (heap_setCell_same w3 w.heap.size (k * 2) _ _ (.int .i64 KD) ((hb3.block _ hgl).trans HCS.out))) (by have := HSZ.out; simp; omega))
        | exact HF'.out _ (some_at (heap_setCell_same _ w.heap.size (k * 2 + 1) _ _ (.slice (some ⟨g, 0, none⟩) RN (RN + 2)) (heap_setCell_same w3 w.heap.size (k * 2) _ _ (.int .i64 KD) ((hb3.block _ hgl).trans HCS.out))) (by have := HSZ.out; simp; omega))) (first | (go_at_call 111; refine (HC.out _ (by first | exact Below.refl _ _ | exact (Below.refl _ _).drew)).mono ?_; rintro e3 w3 ⟨g, rfl, hS, hg3, hL3, hb3⟩))
      obtain ⟨W, hW⟩ : ∃ W, W = (w3.setCell ⟨w.heap.size, k * 2, none⟩ (.int .i64 KD)).setCell ⟨w.heap.size, k * 2 + 1, none⟩ (.slice (some ⟨g, 0, none⟩) RN (RN + 2)) := ⟨_, rfl⟩
      have hcs3 : w3.heap[w.heap.size]? = some (.cells cs 76 (0, 0)) := (hb3.block _ hgl).trans HCS.out
      have h5 := heap_setCell_same _ w.heap.size (k * 2 + 1) _ _ (.slice (some ⟨g, 0, none⟩) RN (RN + 2)) (heap_setCell_same w3 w.heap.size (k * 2) _ _ (.int .i64 KD) hcs3)
      have HB3 : Hid (Below w.heap.size w W) := by rw [hW]; exact ((HB.out.trans (hb3.mono HB.out.size)).setCell (by exact Nat.le_refl _) _).setCell (by exact Nat.le_refl _) _
      have HO : Hid (∀ q, q ≠ w.heap.size → W.heap[q]? = w3.heap[q]?) := fun q hq => by rw [hW]; exact (setCell_other hq).trans (setCell_other hq)
      rw [← hW] at h5
      have HG3 : Hid (∃ cs', W.heap[w.heap.size]? = some (.cells cs' 76 (0, 0)) ∧ cs'.size = (n + 1) * 2 ∧ ∀ i, i < k + 1 → cs'[i * 2]? = some (.int .i64 (kd i)) ∧ cs'[i * 2 + 1]? = some (.slice (some ⟨(fun i => if i = k then g else G i) i, 0, none⟩) (rn i) (rn i + 2))) := by
        have hz := HSZ.out
        refine ⟨_, h5, by simpa using hz, fun i hi => ?_⟩
        by_cases e : i = k
        · subst e
          rw [Array.getElem?_setIfInBounds, if_neg (by omega), Array.getElem?_setIfInBounds, if_pos rfl, if_pos (by omega), Array.getElem?_setIfInBounds, if_pos rfl, if_pos (by simp; omega), HKK.out, HRK.out]
          simp only [if_true, and_self]
        · obtain ⟨cs2, hq1, _, hq3⟩ := HG.out
          rw [HCS.out] at hq1
          cases hq1
          rw [Array.getElem?_setIfInBounds, if_neg (by omega), Array.getElem?_setIfInBounds, if_neg (by omega), Array.getElem?_setIfInBounds, if_neg (by omega), Array.getElem?_setIfInBounds, if_neg (by omega)]
          simp only [if_neg e]
          exact hq3 i (by omega)
      have HL3 : Hid (∀ i, i < k + 1 → w.heap.size < (fun i => if i = k then g else G i) i ∧ LentI W ((fun i => if i = k then g else G i) i) (rn i) (Q i)) := fun i hi => by
        by_cases e : i = k
        · subst e
          simp only [if_true]
          exact ⟨by omega, by rw [← HRK.out]; exact hL3.block (HO.out _ (by omega))⟩
        · simp only [if_neg e]
          obtain ⟨k1, k2⟩ := HLI.out i (by omega)
          exact ⟨k1, (k2.block (hb3.block _ k2.lt)).block (HO.out _ (by omega))⟩
      rw [← hW]
      clear hL3 hb3 h5 hcs3 HC HG HLI HB hS x0 xk y1 y2 f1 f2 HF HF' hW HO
      go_wp2_with go_in
      go_roundw
      case rel => exact ⟨k + 1, _, by omega, by go_num, HG3, HL3, HB3⟩
      case measure => simp [intOf]; omega
    · obtain rfl : k = n := by omega
      have e1 : wr.cell? ⟨w.heap.size, k * 2, none⟩ = some (cs.getD (k * 2) (.int .i64 0)) := by
        rw [cell_of_row _ _ _ _ _ _ hcs, Array.getElem?_eq_getElem (by omega)]; simp [Array.getD, show k * 2 < cs.size by omega]
      have e2 : wr.cell? ⟨w.heap.size, k * 2 + 1, none⟩ = some (cs.getD (k * 2 + 1) (.int .i64 0)) := by
        rw [cell_of_row _ _ _ _ _ _ hcs, Array.getElem?_eq_getElem (by omega)]; simp [Array.getD, show k * 2 + 1 < cs.size by omega]
      have ef : ∀ o, wr.frozen? ⟨w.heap.size, o, none⟩ = false := fun o => frozen_of_row wr _ o _ _ hcs
      have i0n : (0 : Int) ≤ (k : Int) := by omega
      have j1 : (k : Int) < (k : Int) + 1 := by omega
      obtain ⟨W, hW⟩ : ∃ W, W = (wr.setCell ⟨w.heap.size, k * 2, none⟩ (.int .i64 77)).setCell ⟨w.heap.size, k * 2 + 1, none⟩ (.slice none 0 0) := ⟨_, rfl⟩
      have h5 := heap_setCell_same _ w.heap.size (k * 2 + 1) _ _ (.slice none 0 0) (heap_setCell_same wr w.heap.size (k * 2) _ _ (.int .i64 77) hcs)
      have HLS : Hid (LentT W w.heap.size w.heap.size k kd G rn Q) := by
        rw [hW]
        refine ⟨⟨_, Nat.le_refl _, h5, by simpa using hsz, fun i hi => ?_, ?_, ?_⟩, fun i hi => ?_⟩
        · rw [Array.getElem?_setIfInBounds, if_neg (by omega), Array.getElem?_setIfInBounds, if_neg (by omega), Array.getElem?_setIfInBounds, if_neg (by omega), Array.getElem?_setIfInBounds, if_neg (by omega)]; exact hcp i hi
        · rw [Array.getElem?_setIfInBounds, if_neg (by omega), Array.getElem?_setIfInBounds, if_pos rfl, if_pos (by omega)]
        · rw [Array.getElem?_setIfInBounds, if_pos rfl, if_pos (by simp; omega)]
        · obtain ⟨k1, k2⟩ := HLI.out i hi
          exact ⟨Nat.le_of_lt k1, (k2.block (setCell_other (by omega))).block (setCell_other (by omega))⟩
      have HBW : Hid (Below w.heap.size w W) := by rw [hW]; exact (HB.out.setCell (by exact Nat.le_refl _) _).setCell (by exact Nat.le_refl _) _
      rw [hW] at HLS HBW
      clear hcs hcp hsz h5 HLI HB HG hlt hk hW
      go_wp2_with go_in
      go_ret
      exact ⟨w.heap.size, G, rfl, HLS.out, HBW.out⟩

set_option maxRecDepth 100000 in
set_option maxHeartbeats 4000000 in
theorem keptTree_any (B g n c : Nat) (ao : Option Addr) (kd : Nat → Int) (G : Nat → Nat) (ra : Nat → Option Addr) (rn rc : Nat → Nat) (Q : Nat → Nat → Int) (w : World) (hn : n * 32 ≤ 140737488355328) (hrn : ∀ i, i < n → rn i * 8 ≤ 140737488355328) (hs : LentT w B g n kd G rn Q) (hl : NodesZ w ao n kd ra rn rc Q) :
    Calls Tryz.prog 74 #[.slice (some ⟨g, 0, none⟩) n (n + 1), .slice ao n c] w fun e w' => e = .returned (.bool true) ∧ Below w.heap.size w w' := by
  have HL := hid hl
  have HRN := hid hrn
  have HS := hid hs
  clear hl hrn hs
  have hn' : n ≤ 4398046511104 := by omega
  go_enter Tryz.func74, Tryz.ntmps74
  go_wp2_with fail
  go_loopw [5, 6] (fun i ok wr => ∃ k : Nat, k ≤ n ∧ i = .int .i64 k ∧ Hid (Below w.heap.size w wr)) (fun i _ _ => n - (intOf i).toNat)
  case atStart => exact ⟨0, Nat.zero_le _, rfl, Below.refl _ _⟩
  case round =>
    obtain ⟨k, hk, rfl, HB⟩ := hrel
    obtain ⟨⟨cs, _, h1, h2, h3, h4, h5⟩, h6⟩ := HS.out.below HB.out
    have hgl : g < wr.heap.size := (Array.getElem?_eq_some_iff.1 h1).1
    by_cases hlt : k < n
    · obtain ⟨b, o, rfl, hbl, hrow⟩ := HL.out (by omega)
      obtain ⟨hk0, hk1, hr0, hr1, hr2⟩ := hrow k hlt
      have x0 : wr.cell? ⟨b, o + k * 2 + 1, none⟩ = _ := (HB.out.cell (by exact hbl)).trans hr0
      have xk : wr.cell? ⟨b, o + k * 2, none⟩ = _ := (HB.out.cell (by exact hbl)).trans hk0
      have x1 : b < wr.heap.size := Nat.lt_of_lt_of_le hbl HB.out.size
      have x2 : wr.cell? ⟨g, k * 2 + 1, none⟩ = some (.slice (some ⟨G k, 0, none⟩) (rn k) (rn k + 2)) := by rw [cell_of_row _ _ _ _ _ _ h1]; exact (h3 k hlt).2
      have x3 : wr.cell? ⟨g, k * 2, none⟩ = some (.int .i64 (kd k)) := by rw [cell_of_row _ _ _ _ _ _ h1]; exact (h3 k hlt).1
      have hWr : RowZ wr (ra k) (rn k) (Q k) := fun h0 => by
        obtain ⟨b', o', m1, m2, m3⟩ := hr2 h0
        exact ⟨b', o', m1, Nat.lt_of_lt_of_le m2 HB.out.size, fun j hj => (HB.out.cell (by exact m2)).trans (m3 j hj).1⟩
      have HC : Hid (∀ W, Below wr.heap.size wr W → Calls Tryz.prog 113 #[.slice (some ⟨G k, 0, none⟩) (rn k) (rn k + 2), .slice (ra k) (rn k) (rc k)] W fun e w' => e = .returned (.bool true) ∧ (w'.cell? ⟨b, o + k * 2 + 1, none⟩ = some (.slice (ra k) (rn k) (rc k)) ∧ w'.cell? ⟨g, k * 2 + 1, none⟩ = some (.slice (some ⟨G k, 0, none⟩) (rn k) (rn k + 2))) ∧ (w'.cell? ⟨b, o + k * 2, none⟩ = some (.int .i64 (kd k)) ∧ w'.cell? ⟨g, k * 2, none⟩ = some (.int .i64 (kd k))) ∧ Below wr.heap.size wr w') := by
        intro W hW
        refine (keptI_any (G k) (rn k) (rc k) (ra k) (Q k) W (HRN.out k hlt) ((h6 k hlt).2.block (hW.block _ (h6 k hlt).2.lt)) (hWr.below hW)).mono ?_
        rintro e3 w3 ⟨rfl, hb3⟩
        have hbw : Below wr.heap.size wr w3 := hW.trans (hb3.mono hW.size)
        exact ⟨rfl, ⟨(hbw.cell (by exact x1)).trans x0, (hbw.cell (by exact hgl)).trans x2⟩, ⟨(hbw.cell (by exact x1)).trans xk, (hbw.cell (by exact hgl)).trans x3⟩, hbw⟩
      obtain ⟨RA, hRA⟩ : ∃ RA, RA = ra k := ⟨_, rfl⟩
      obtain ⟨RN, hRN⟩ : ∃ RN, RN = rn k := ⟨_, rfl⟩
      obtain ⟨RC, hRC⟩ : ∃ RC, RC = rc k := ⟨_, rfl⟩
      obtain ⟨GK, hGK⟩ : ∃ GK, GK = G k := ⟨_, rfl⟩
      obtain ⟨KD, hKD⟩ : ∃ KD, KD = kd k := ⟨_, rfl⟩
      rw [← hRA, ← hRN, ← hRC] at x0 HC
      rw [← hRN, ← hGK] at x2
      rw [← hGK, ← hKD] at HC
      rw [← hKD] at xk x3
      have ik : (0 : Int) ≤ (k : Int) := by omega
      have jk : (k : Int) < (n : Int) := by omega
      clear hrow hr0 hr1 hr2 h1 h2 h3 h4 h5 h6 hWr hRA hRN hRC hGK hKD hk0 hk1
      go_wp2_with fail
      go_region_held3 (fun w' => w'.cell? ⟨b, o + k * 2 + 1, none⟩ = some (.slice RA RN RC) ∧ w'.cell? ⟨g, k * 2 + 1, none⟩ = some (.slice (some ⟨GK, 0, none⟩) RN (RN + 2))) (go_keep) (first | (go_at_call 113; refine (HC.out _ (by first | exact Below.refl _ _ | exact (Below.refl _ _).drew)).mono ?_; rintro e3 w3 ⟨rfl, hS, ⟨y0, y1⟩, hb3⟩))
      have HB3 : Hid (Below w.heap.size w w3) := HB.out.trans (hb3.mono HB.out.size)
      have x1' : b < w3.heap.size := Nat.lt_of_lt_of_le x1 hb3.size
      have hgl' : g < w3.heap.size := Nat.lt_of_lt_of_le hgl hb3.size
      clear hb3 HC HB x0 x2 hS xk x3
      go_wp2_with go_in
      go_quiet (fail)
      go_wp2_with go_in
      go_roundw
      case rel => exact ⟨k + 1, by omega, by go_num, by first | exact HB3 | exact HB3.out.drew | exact below_drewN' HB3.out _⟩
      case measure => simp [intOf]; omega
    · obtain rfl : k = n := by omega
      have y0 : wr.cell? ⟨g, k * 2, none⟩ = some (.int .i64 77) := by rw [cell_of_row _ _ _ _ _ _ h1]; exact h4
      have y1 : wr.cell? ⟨g, k * 2 + 1, none⟩ = some (.slice none 0 0) := by rw [cell_of_row _ _ _ _ _ _ h1]; exact h5
      have i0n : (0 : Int) ≤ (k : Int) := by omega
      have j1 : (k : Int) < (k : Int) + 1 := by omega
      have hnil : ∀ W, Sem.run Tryz.prog (binOp .eql 40 (.slice none 0 0) (.slice none 0 0)) W = .ok (.bool true) W := fun W => Go.Lib.run_eql_slice_nil W _ _ none 0 0 0 0 Tryz.underlying40
      clear h1 h2 h3 h4 h5 h6 hlt
      go_wp2_with go_in
      go_ret
      exact ⟨rfl, HB.out⟩
end Go.Proofs.YtebinaopncclgabGreatDoor
