/- Walks of the statements: squares that are lent, and kept. -/
import Derived.Test.YtebinaopncclgaaGreatDoorLentQ
namespace Go.Proofs.YtebinaopncclgaaGreatDoor
open Go.RowKit Go.IntWalk

/- a square that was lent -/
def LentSq (w : World) (B g n : Nat) (G : Nat → Nat) (rn : Nat → Nat) (Q : Nat → Nat → Int) : Prop :=
  (∃ cs g7, B ≤ g ∧ B ≤ g7 ∧ w.heap[g]? = some (.cells cs 53 (0, 0)) ∧ cs.size = n + 1 ∧ (∀ i, i < n → cs[i]? = some (.slice (some ⟨G i, 0, none⟩) (rn i) (rn i + 2))) ∧ cs[n]? = some (.slice (some ⟨g7, 0, none⟩) 1 1) ∧ w.heap[g7]? = some (.cells #[.int .i64 77] 3 (0, 0))) ∧ ∀ i, i < n → B ≤ G i ∧ LentI w (G i) (rn i) (Q i)
theorem LentSq.keep {w w' : World} {B g n : Nat} {G rn : Nat → Nat} {Q : Nat → Nat → Int} (h : LentSq w B g n G rn Q) (hk : ∀ q, B ≤ q → q < w.heap.size → w'.heap[q]? = w.heap[q]?) : LentSq w' B g n G rn Q := by
  obtain ⟨⟨cs, g7, b1, b2, h1, h2, h3, h4, h5⟩, h6⟩ := h
  exact ⟨⟨cs, g7, b1, b2, by rw [hk _ b1 (Array.getElem?_eq_some_iff.1 h1).1]; exact h1, h2, h3, h4, by rw [hk _ b2 (Array.getElem?_eq_some_iff.1 h5).1]; exact h5⟩, fun i hi => ⟨(h6 i hi).1, (h6 i hi).2.block (hk _ (h6 i hi).1 (h6 i hi).2.lt)⟩⟩
theorem LentSq.below {w w' : World} {B g n : Nat} {G rn : Nat → Nat} {Q : Nat → Nat → Int} (h : LentSq w B g n G rn Q) (hb : Below w.heap.size w w') : LentSq w' B g n G rn Q := h.keep fun q _ hq => hb.block q hq
theorem LentSq.rows {w : World} {B g n : Nat} {G rn : Nat → Nat} {Q : Nat → Nat → Int} (h : LentSq w B g n G rn Q) (hr : ∀ i, i < n → rn i ≤ 9223372036854775807) (hq : ∀ i, i < n → ∀ j, j < rn i → -9223372036854775808 ≤ Q i j ∧ Q i j ≤ 9223372036854775807) : LRowsZ w (some ⟨g, 0, none⟩) n (fun i => some ⟨G i, 0, none⟩) rn (fun i => rn i + 2) Q := fun _ => by
  obtain ⟨⟨cs, g7, _, _, h1, h2, h3, h4, h5⟩, h6⟩ := h
  refine ⟨g, 0, rfl, (Array.getElem?_eq_some_iff.1 h1).1, fun i hi => ⟨by rw [cell_of_row _ _ _ _ _ _ h1, Nat.zero_add]; exact h3 i hi, hr i hi, fun h0 => ?_⟩⟩
  obtain ⟨b, o, k1, k2, k3⟩ := (h6 i hi).2.row h0
  exact ⟨b, o, k1, k2, fun j hj => ⟨k3 j hj, hq i hi j hj⟩⟩
theorem LentSq.sq {w : World} {B g n c : Nat} {G rn : Nat → Nat} {Q : Nat → Nat → Int} (h : LentSq w B g n G rn Q) (hn : n ≤ 10) (hr : ∀ i, i < n → rn i = n) : SqR w (.slice (some ⟨g, 0, none⟩) n c) n Q := by
  obtain ⟨⟨cs, g7, _, _, h1, h2, h3, h4, h5⟩, h6⟩ := h
  refine ⟨_, _, rfl, by omega, fun i hi => ⟨g, G i, rn i + 2, rfl, (Array.getElem?_eq_some_iff.1 h1).1, ?_, (h6 i hi).2.lt, fun j hj => ?_⟩⟩
  · rw [cell_of_row _ _ _ _ _ _ h1, h3 i hi, hr i hi]
  · obtain ⟨ds, hd, _, hq, _⟩ := (h6 i hi).2
    rw [cell_of_row _ _ _ _ _ _ hd]; exact hq j (by rw [hr i hi]; exact hj)
theorem setCell_other {w : World} {g k q : Nat} {v : Value} (h : q ≠ g) : (w.setCell ⟨g, k, none⟩ v).heap[q]? = w.heap[q]? := Below.heap_setCell _ _ _ _ (by exact h)

set_option maxRecDepth 100000 in
set_option maxHeartbeats 4000000 in
theorem lentSq_any (ao : Option Addr) (n c : Nat) (ra : Nat → Option Addr) (rn rc : Nat → Nat) (Q : Nat → Nat → Int) (w : World) (hn : n * 24 ≤ 140737488355328) (hrn : ∀ i, i < n → rn i * 8 ≤ 140737488355328) (hl : LRowsZ w ao n ra rn rc Q) :
    Calls Tryz.prog 39 #[.slice ao n c] w fun e w' => ∃ g G, e = .returned (.slice (some ⟨g, 0, none⟩) n (n + 1)) ∧ LentSq w' w.heap.size g n G rn Q ∧ Below w.heap.size w w' := by
  obtain ⟨i0, hi, hz0, hz1, hz2⟩ := info_parts Tryz.infoInts
  have HL := hid hl
  have HRN := hid hrn
  clear hl hrn
  have hn' : n ≤ 5864062014806 := by omega
  go_enter Tryz.func39, Tryz.ntmps39
  go_wp2_with (refine wpList_make_full _ rfl _ _ 26 rfl w.heap.size 53 i0 (.slice none 0 0) 1 Tryz.underlying26 hi hz0 hz1 .i64 .i64 _ _ (n + 1) rfl rfl ?a1 ?a2 ?a3 ?a4 ?a5 ?_)
  case a1 => omega
  case a2 => omega
  case a3 => rw [hz2]; omega
  case a4 => unfold maxLen; omega
  case a5 => exact Nat.le_refl _
  intro w1 hown1 hgr1
  obtain ⟨_, cur1, hg1, hs1, _⟩ := own_row (g := w.heap.size) (by simpa using hown1)
  have hb1 : Below w.heap.size w w1 := (Below.refl _ _).grown hgr1 (Nat.le_refl _) (by simp)
  have HB1 := hid hb1
  have HG1 : Hid (∃ cs, w1.heap[w.heap.size]? = some (.cells cs 53 (0, 0)) ∧ cs.size = n + 1 ∧ ∀ i, i < 0 → cs[i]? = some (.slice (some ⟨(fun _ => 0) i, 0, none⟩) (rn i) (rn i + 2))) := ⟨cur1, hg1, by simpa using hs1, fun i h => absurd h (by omega)⟩
  clear hown1 hgr1 hb1 hg1 hs1
  go_wp2_with fail
  go_loopw [4] (fun i wr => ∃ (k : Nat) (G : Nat → Nat), k ≤ n ∧ i = .int .i64 k ∧ Hid (∃ cs, wr.heap[w.heap.size]? = some (.cells cs 53 (0, 0)) ∧ cs.size = n + 1 ∧ ∀ i, i < k → cs[i]? = some (.slice (some ⟨G i, 0, none⟩) (rn i) (rn i + 2))) ∧ Hid (∀ i, i < k → w.heap.size < G i ∧ LentI wr (G i) (rn i) (Q i)) ∧ Hid (Below w.heap.size w wr)) (fun i _ => n - (intOf i).toNat)
  case atStart => exact ⟨0, fun _ => 0, Nat.zero_le _, rfl, HG1, fun i h => absurd h (by omega), HB1⟩
  case round =>
    clear HG1 HB1
    obtain ⟨k, G, hk, rfl, HG, HLI, HB⟩ := hrel
    obtain ⟨cs, hcs, hsz, hcp⟩ := HG.out
    have HCS := hid hcs
    have hgl : w.heap.size < wr.heap.size := (Array.getElem?_eq_some_iff.1 hcs).1
    by_cases hlt : k < n
    · obtain ⟨b, o, rfl, hbl, hrow⟩ := HL.out (by omega)
      obtain ⟨hr0, hr1, hr2⟩ := hrow k hlt
      have x0 : wr.cell? ⟨b, o + k, none⟩ = _ := (HB.out.cell (by exact hbl)).trans hr0
      have x1 : b < wr.heap.size := Nat.lt_of_lt_of_le hbl HB.out.size
      have hne : ¬ b = w.heap.size := by omega
      have HC : Hid (∀ W, Below wr.heap.size wr W → Calls Tryz.prog 78 #[.slice (ra k) (rn k) (rc k)] W fun e w' => ∃ g, e = .returned (.slice (some ⟨g, 0, none⟩) (rn k) (rn k + 2)) ∧ w'.cell? ⟨b, o + k, none⟩ = some (.slice (ra k) (rn k) (rc k)) ∧ w'.cell? ⟨w.heap.size, k, none⟩ = some (cs.getD k (.int .i64 0)) ∧ w'.frozen? ⟨w.heap.size, k, none⟩ = false ∧ (w'.setCell ⟨w.heap.size, k, none⟩ (.slice (some ⟨g, 0, none⟩) (rn k) (rn k + 2))).cell? ⟨b, o + k, none⟩ = some (.slice (ra k) (rn k) (rc k)) ∧ wr.heap.size ≤ g ∧ LentI w' g (rn k) (Q k) ∧ Below wr.heap.size wr w') := by
        intro W hW
        have hWr : RowZ W (ra k) (rn k) (Q k) := fun h0 => by
          obtain ⟨b', o', m1, m2, m3⟩ := hr2 h0
          have hwW := HB.out.trans (hW.mono HB.out.size)
          exact ⟨b', o', m1, Nat.lt_of_lt_of_le m2 hwW.size, fun j hj => (hwW.cell (by exact m2)).trans (m3 j hj).1⟩
        refine (lentI_any (ra k) (rn k) (rc k) (Q k) W (HRN.out k hlt) hWr).mono ?_
        rintro e3 w3 ⟨g, rfl, h1, h2, h3⟩
        have hbw : Below wr.heap.size wr w3 := hW.trans (h3.mono hW.size)
        have y0 : w3.cell? ⟨b, o + k, none⟩ = _ := (hbw.cell (by exact x1)).trans x0
        have hcs3 : w3.heap[w.heap.size]? = some (.cells cs 53 (0, 0)) := (hbw.block _ hgl).trans hcs
        refine ⟨g, rfl, y0, ?_, frozen_of_row w3 _ _ _ _ hcs3, (cell_aside w3 _ hne).trans y0, Nat.le_trans hW.size h1, h2, hbw⟩
        rw [cell_of_row _ _ _ _ _ _ hcs3, Array.getElem?_eq_getElem (by omega)]; simp [Array.getD, show k < cs.size by omega]
      have ik : (0 : Int) ≤ (k : Int) := by omega
      have jk : (k : Int) < (n : Int) := by omega
      have jk1 : (k : Int) < (n : Int) + 1 := by omega
      obtain ⟨RA, hRA⟩ : ∃ RA, RA = ra k := ⟨_, rfl⟩
      obtain ⟨RN, hRN⟩ : ∃ RN, RN = rn k := ⟨_, rfl⟩
      obtain ⟨RC, hRC⟩ : ∃ RC, RC = rc k := ⟨_, rfl⟩
      rw [← hRA, ← hRN, ← hRC] at x0 HC
      have HRK := hid hRN
      clear hrow hr0 hr1 hr2 hcs hcp hRA hRN hRC
      have hsz2 := hsz
      clear hsz
      go_wp2_with fail
      refine (HC.out _ (Below.refl _ _)).mono ?_
      rintro e3 w3 ⟨g, rfl, y0, y1, y2, y3, h1, h2, h3⟩
      have hcs3 : w3.heap[w.heap.size]? = some (.cells cs 53 (0, 0)) := (h3.block _ hgl).trans HCS.out
      have h4 := heap_setCell_same w3 w.heap.size k _ _ (.slice (some ⟨g, 0, none⟩) RN (RN + 2)) hcs3
      have HB3 : Hid (Below w.heap.size w (w3.setCell ⟨w.heap.size, k, none⟩ (.slice (some ⟨g, 0, none⟩) RN (RN + 2)))) := (HB.out.trans (h3.mono HB.out.size)).setCell (by exact Nat.le_refl _) _
      have HG3 : Hid (∃ cs', (w3.setCell ⟨w.heap.size, k, none⟩ (.slice (some ⟨g, 0, none⟩) RN (RN + 2))).heap[w.heap.size]? = some (.cells cs' 53 (0, 0)) ∧ cs'.size = n + 1 ∧ ∀ i, i < k + 1 → cs'[i]? = some (.slice (some ⟨(fun i => if i = k then g else G i) i, 0, none⟩) (rn i) (rn i + 2))) := by
        refine ⟨_, h4, by simpa using hsz2, fun i hi => ?_⟩
        rw [Array.getElem?_setIfInBounds]
        by_cases e : i = k
        · subst e; simp [hsz2, HRK.out]; omega
        · rw [if_neg (fun h => e h.symm)]
          obtain ⟨cs2, hq1, _, hq3⟩ := HG.out
          rw [HCS.out] at hq1
          cases hq1
          simp only [if_neg e]
          exact hq3 i (by omega)
      have HL3 : Hid (∀ i, i < k + 1 → w.heap.size < (fun i => if i = k then g else G i) i ∧ LentI (w3.setCell ⟨w.heap.size, k, none⟩ (.slice (some ⟨g, 0, none⟩) RN (RN + 2))) ((fun i => if i = k then g else G i) i) (rn i) (Q i)) := fun i hi => by
        by_cases e : i = k
        · subst e
          simp only [if_true]
          exact ⟨by omega, by rw [← HRK.out]; exact h2.block (setCell_other (by omega))⟩
        · simp only [if_neg e]
          obtain ⟨k1, k2⟩ := HLI.out i (by omega)
          exact ⟨k1, (k2.block (h3.block _ k2.lt)).block (setCell_other (by omega))⟩
      clear h2 h3 h4 hcs3 HC HG HLI HB
      go_wp2_with go_in
      go_roundw
      case rel => exact ⟨k + 1, _, by omega, by go_num, HG3, HL3, HB3⟩
      case measure => simp [intOf]; omega
    · obtain rfl : k = n := by omega
      have hsz2 := hsz
      have HCP := hid hcp
      have e0 : wr.cell? ⟨w.heap.size, k, none⟩ = some (cs.getD k (.int .i64 0)) := by
        rw [cell_of_row _ _ _ _ _ _ hcs, Array.getElem?_eq_getElem (by omega)]; simp [Array.getD, hsz]
      have ef : ∀ o, wr.frozen? ⟨w.heap.size, o, none⟩ = false := fun o => frozen_of_row wr _ o _ _ hcs
      have i0n : (0 : Int) ≤ (k : Int) := by omega
      have j1 : (k : Int) < (k : Int) + 1 := by omega
      obtain ⟨W, hW⟩ : ∃ W, W = wr.alloc (.cells #[.int .i64 77] 3) := ⟨_, rfl⟩
      have hbW : Below wr.heap.size wr W := by rw [hW]; exact below1 wr _
      have h7 : W.heap[wr.heap.size]? = some (.cells #[.int .i64 77] 3 (0, 0)) := by rw [hW]; exact heap_alloc_new wr _
      have hcW : W.heap[w.heap.size]? = some (.cells cs 53 (0, 0)) := (hbW.block _ hgl).trans hcs
      have h8 := heap_setCell_same W w.heap.size k _ _ (.slice (some ⟨wr.heap.size, 0, none⟩) 1 1) hcW
      have HLS : Hid (LentSq (W.setCell ⟨w.heap.size, k, none⟩ (.slice (some ⟨wr.heap.size, 0, none⟩) 1 1)) w.heap.size w.heap.size k G rn Q) := by
        refine ⟨⟨_, wr.heap.size, Nat.le_refl _, Nat.le_of_lt hgl, h8, by simpa using hsz, fun i hi => ?_, ?_, (setCell_other (by omega)).trans h7⟩, fun i hi => ?_⟩
        · rw [Array.getElem?_setIfInBounds, if_neg (by omega)]; exact hcp i hi
        · rw [Array.getElem?_setIfInBounds]; simp [hsz]
        · obtain ⟨k1, k2⟩ := HLI.out i hi
          exact ⟨Nat.le_of_lt k1, (k2.block (hbW.block _ k2.lt)).block (setCell_other (by omega))⟩
      have HBW : Hid (Below w.heap.size w (W.setCell ⟨w.heap.size, k, none⟩ (.slice (some ⟨wr.heap.size, 0, none⟩) 1 1))) := (HB.out.trans (hbW.mono HB.out.size)).setCell (by exact Nat.le_refl _) _
      rw [hW, World.setCell_alloc_past _ _ _ _ (by omega)] at HLS HBW
      clear hcs hcp hsz hbW h7 hcW h8 HLI HB HG hlt hk hW
      go_wp2_with go_in
      go_ret
      exact ⟨w.heap.size, G, rfl, HLS.out, HBW.out⟩

set_option maxRecDepth 100000 in
set_option maxHeartbeats 4000000 in
theorem keptSq_any (B g n c : Nat) (ao : Option Addr) (G : Nat → Nat) (ra : Nat → Option Addr) (rn rc : Nat → Nat) (Q : Nat → Nat → Int) (w : World) (hn : n * 24 ≤ 140737488355328) (hrn : ∀ i, i < n → rn i * 8 ≤ 140737488355328) (hs : LentSq w B g n G rn Q) (hl : LRowsZ w ao n ra rn rc Q) :
    Calls Tryz.prog 41 #[.slice (some ⟨g, 0, none⟩) n (n + 1), .slice ao n c] w fun e w' => e = .returned (.bool true) ∧ Below w.heap.size w w' := by
  have HL := hid hl
  have HRN := hid hrn
  have HS := hid hs
  clear hl hrn hs
  have hn' : n ≤ 5864062014806 := by omega
  go_enter Tryz.func41, Tryz.ntmps41
  go_wp2_with fail
  go_loopw [5] (fun i wr => ∃ k : Nat, k ≤ n ∧ i = .int .i64 k ∧ Hid (Below w.heap.size w wr)) (fun i _ => n - (intOf i).toNat)
  case atStart => exact ⟨0, Nat.zero_le _, rfl, Below.refl _ _⟩
  case round =>
    obtain ⟨k, hk, rfl, HB⟩ := hrel
    obtain ⟨⟨cs, g7, _, _, h1, h2, h3, h4, h5⟩, h6⟩ := HS.out.below HB.out
    have hgl : g < wr.heap.size := (Array.getElem?_eq_some_iff.1 h1).1
    by_cases hlt : k < n
    · obtain ⟨b, o, rfl, hbl, hrow⟩ := HL.out (by omega)
      obtain ⟨hr0, hr1, hr2⟩ := hrow k hlt
      have x0 : wr.cell? ⟨b, o + k, none⟩ = _ := (HB.out.cell (by exact hbl)).trans hr0
      have x1 : b < wr.heap.size := Nat.lt_of_lt_of_le hbl HB.out.size
      have x2 : wr.cell? ⟨g, k, none⟩ = some (.slice (some ⟨G k, 0, none⟩) (rn k) (rn k + 2)) := by rw [cell_of_row _ _ _ _ _ _ h1]; exact h3 k hlt
      have hWr : RowZ wr (ra k) (rn k) (Q k) := fun h0 => by
        obtain ⟨b', o', m1, m2, m3⟩ := hr2 h0
        exact ⟨b', o', m1, Nat.lt_of_lt_of_le m2 HB.out.size, fun j hj => (HB.out.cell (by exact m2)).trans (m3 j hj).1⟩
      have HC : Hid (∀ W, Below wr.heap.size wr W → Calls Tryz.prog 80 #[.slice (some ⟨G k, 0, none⟩) (rn k) (rn k + 2), .slice (ra k) (rn k) (rc k)] W fun e w' => e = .returned (.bool true) ∧ w'.cell? ⟨b, o + k, none⟩ = some (.slice (ra k) (rn k) (rc k)) ∧ w'.cell? ⟨g, k, none⟩ = some (.slice (some ⟨G k, 0, none⟩) (rn k) (rn k + 2)) ∧ Below wr.heap.size wr w') := by
        intro W hW
        refine (keptI_any (G k) (rn k) (rc k) (ra k) (Q k) W (HRN.out k hlt) ((h6 k hlt).2.block (hW.block _ (h6 k hlt).2.lt)) (hWr.below hW)).mono ?_
        rintro e3 w3 ⟨rfl, hb3⟩
        have hbw : Below wr.heap.size wr w3 := hW.trans (hb3.mono hW.size)
        exact ⟨rfl, (hbw.cell (by exact x1)).trans x0, (hbw.cell (by exact hgl)).trans x2, hbw⟩
      obtain ⟨RA, hRA⟩ : ∃ RA, RA = ra k := ⟨_, rfl⟩
      obtain ⟨RN, hRN⟩ : ∃ RN, RN = rn k := ⟨_, rfl⟩
      obtain ⟨RC, hRC⟩ : ∃ RC, RC = rc k := ⟨_, rfl⟩
      obtain ⟨GK, hGK⟩ : ∃ GK, GK = G k := ⟨_, rfl⟩
      rw [← hRA, ← hRN, ← hRC] at x0 HC
      rw [← hRN, ← hGK] at x2
      rw [← hGK] at HC
      have ik : (0 : Int) ≤ (k : Int) := by omega
      have jk : (k : Int) < (n : Int) := by omega
      clear hrow hr0 hr1 hr2 h1 h2 h3 h4 h5 h6 hWr hRA hRN hRC hGK
      go_wp2_with fail
      go_region_held3 (fun w' => w'.cell? ⟨b, o + k, none⟩ = some (.slice RA RN RC) ∧ w'.cell? ⟨g, k, none⟩ = some (.slice (some ⟨GK, 0, none⟩) RN (RN + 2))) (go_keep) (first | (go_at_call 80; refine (HC.out _ (by first | exact Below.refl _ _ | exact (Below.refl _ _).drew)).mono ?_; rintro e3 w3 ⟨rfl, y0, y1, hb3⟩))
      have HB3 : Hid (Below w.heap.size w w3) := HB.out.trans (hb3.mono HB.out.size)
      clear hb3 HC HB y0 y1 x0 x2
      go_wp2_with go_in
      go_roundw
      case rel => exact ⟨k + 1, by omega, by go_num, by first | exact HB3 | exact HB3.out.drew⟩
      case measure => simp [intOf]; omega
    · obtain rfl : k = n := by omega
      have y0 : wr.cell? ⟨g, k, none⟩ = some (.slice (some ⟨g7, 0, none⟩) 1 1) := by rw [cell_of_row _ _ _ _ _ _ h1]; exact h4
      have y1 : wr.cell? ⟨g7, 0, none⟩ = some (.int .i64 77) := by rw [cell_of_row _ _ _ _ _ _ h5]; rfl
      have hg7 : g7 < wr.heap.size := (Array.getElem?_eq_some_iff.1 h5).1
      have i0n : (0 : Int) ≤ (k : Int) := by omega
      have j1 : (k : Int) < (k : Int) + 1 := by omega
      clear h1 h2 h3 h4 h5 h6 hlt
      go_wp2_with go_in
      go_ret
      exact ⟨rfl, HB.out⟩
end Go.Proofs.YtebinaopncclgaaGreatDoor
