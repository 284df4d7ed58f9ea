/- Walks: the document's look at what Assign answers. -/
import Derived.Test.YtebinaopncclgaaGreatDoorAFault
import Derived.Test.YtebinaopncclgaaGreatDoorLPick
import Derived.Test.YtebinaopncclgaaGreatDoorLLow
import Derived.Test.YtebinaopncclgaaGreatDoorLShort
namespace Go.Proofs.YtebinaopncclgaaGreatDoor
open Go.RowKit Go.IntWalk

set_option maxRecDepth 100000 in
set_option maxHeartbeats 2000000 in
theorem passign_any (n : Nat) (C : Nat → Nat → Int) (vc : Value) (w : World) (hn : n ≤ 10) (hsq : SqR w vc n C) (hc : CellOk n C) : Calls Tryz.prog 40 #[vc] w (BestLeft w n C) := by
  have HC : Hid (∀ W, Below w.heap.size w W → Calls Tryz.prog 79 #[vc] W (BestLeft W n C)) := fun W hW => best_any n C vc W hn (hsq.below hW) hc
  obtain ⟨af, cf, hvc, _, _⟩ := hsq
  subst hvc
  clear hc
  go_enter Tryz.func40, Tryz.ntmps40
  go_wp2_with fail
  refine (HC.out _ (below1 w _)).mono ?_
  rintro e1 w1 ⟨hb1, hcase⟩
  have HB1 : Hid (Below w.heap.size w w1) := (below1 w _).trans (hb1.mono (by simp))
  have hz1 : w1.heap[w.heap.size]? = some (.cells #[.bool false, .int .i64 0, .slice none 0 0, .slice none 0 0, .slice none 0 0, .slice none 0 0] 86 (0, 0)) := (hb1.block _ (by simp)).trans (heap_alloc_new w _)
  obtain ⟨zl, z0, z1, z2, z3, z4, z5, zf⟩ := six_at hz1
  have hsz : (w.alloc (.cells #[.bool false, .int .i64 0, .slice none 0 0, .slice none 0 0, .slice none 0 0, .slice none 0 0] 86)).heap.size = w.heap.size + 1 := by simp
  rcases hcase with ⟨g1, g2, g3, col, u, v, cost, rfl, l1, l2, l3, n12, n13, n23, r1, r2, r3, htt⟩ | ⟨y, S, T, rfl, hy, hsh⟩
  · rw [hsz] at l1 l2 l3
    have HR1 := hid r1
    have HR2 := hid r2
    have HR3 := hid r3
    have HTT := hid htt
    have hg1 : g1 ≠ w.heap.size := by omega
    have hg2 : g2 ≠ w.heap.size := by omega
    have hg3 : g3 ≠ w.heap.size := by omega
    clear r1 r2 r3 htt hb1 hz1 hsz HC
    go_wp2_with fail
    refine bodyPost_ret (v := .tuple #[.agg #[.bool true, .int .i64 cost, .slice (some ⟨g1, 0, none⟩) n n, .slice (some ⟨g2, 0, none⟩) n n, .slice (some ⟨g3, 0, none⟩) n n, .slice none 0 0], .int .i64 0]) (by simp [results, Tryz.results40, go_sem, z0, z1, z2, z3, z4, z5]) rfl ?_
    refine ⟨(((((HB1.out.setCell (by exact Nat.le_refl _) _).setCell (by exact Nat.le_refl _) _).setCell (by exact Nat.le_refl _) _).setCell (by exact Nat.le_refl _) _).setCell (by exact Nat.le_refl _) _).setCell (by exact Nat.le_refl _) _, .inl ⟨g1, g2, g3, col, u, v, cost, rfl, by omega, by omega, by omega, n12, n13, n23, ?_, ?_, ?_, HTT.out⟩⟩
    · exact (((((HR1.out.aside hg1 _).aside hg1 _).aside hg1 _).aside hg1 _).aside hg1 _).aside hg1 _
    · exact (((((HR2.out.aside hg2 _).aside hg2 _).aside hg2 _).aside hg2 _).aside hg2 _).aside hg2 _
    · exact (((((HR3.out.aside hg3 _).aside hg3 _).aside hg3 _).aside hg3 _).aside hg3 _).aside hg3 _
  · rw [hsz] at hy
    obtain ⟨ay, cy, hyv, _, _⟩ := own_val hy
    have HY := hid hy
    have HSH := hid hsh
    subst hyv
    have hlt3 : w.heap.size < w.heap.size + 1 := by omega
    clear hy hsh hb1 hz1 hsz HC
    go_wp2_with fail
    refine bodyPost_ret (v := .tuple #[.agg #[.bool false, .int .i64 0, .slice none 0 0, .slice none 0 0, .slice none 0 0, .slice ay ((List.range n).filter S).length cy], .int .i64 0]) (by simp [results, Tryz.results40, go_sem, z0, z1, z2, z3, z4, z5]) rfl ?_
    refine ⟨(((((HB1.out.setCell (by exact Nat.le_refl _) _).setCell (by exact Nat.le_refl _) _).setCell (by exact Nat.le_refl _) _).setCell (by exact Nat.le_refl _) _).setCell (by exact Nat.le_refl _) _).setCell (by exact Nat.le_refl _) _, .inr ⟨_, S, T, rfl, ?_, HSH.out⟩⟩
    exact own_base (own_aside (own_aside (own_aside (own_aside (own_aside (own_aside HY.out hlt3) hlt3) hlt3) hlt3) hlt3) hlt3) (by omega)

def zeroM : Array Value := #[.bool false, .int .i64 0, .slice none 0 0, .slice none 0 0, .slice none 0 0, .slice none 0 0]
set_option maxRecDepth 100000 in
set_option maxHeartbeats 4000000 in
theorem best_bad (ao : Option Addr) (n c : Nat) (ra : Nat → Option Addr) (rn rc : Nat → Nat) (Q : Nat → Nat → Int) (w : World) (hlen : n ≤ 9223372036854775807) (hl : LRowsZ w ao n ra rn rc Q) (hf : sqFault n rn Q ≠ 0) :
    Calls Tryz.prog 79 #[.slice ao n c] w fun e w' => e = .returned (.tuple #[.agg zeroM, .int .i64 (sqFault n rn Q)]) ∧ Below w.heap.size w w' := by
  have HCF : Hid (∀ W, Below w.heap.size w W → _) := fun W hW => cellFault_any ao n c ra rn rc Q W hlen (hl.below hW)
  obtain ⟨F, hF⟩ : ∃ F, F = sqFault n rn Q := ⟨_, rfl⟩
  rw [← hF] at HCF hf ⊢
  have hne : (F != 0) = true := by simpa using hf
  clear hl hf hF
  go_enter Tryz.func79, Tryz.ntmps79
  go_wp2_with fail
  refine (HCF.out _ (below1 w _)).mono ?_
  rintro e1 w1 ⟨rfl, hb1⟩
  have HB1 : Hid (Below w.heap.size w w1) := (below1 w _).trans (hb1.mono (by simp))
  have hz1 : w1.heap[w.heap.size]? = some (.cells zeroM 86 (0, 0)) := (hb1.block _ (by simp)).trans (heap_alloc_new w _)
  obtain ⟨zl, z0, z1, z2, z3, z4, z5, zf⟩ := six_at hz1
  clear hb1 hz1 HCF
  go_wp2_with go_in
  refine bodyPost_ret (v := .tuple #[.agg zeroM, .int .i64 F]) (by simp [results, Tryz.results79, go_sem, zeroM, z0, z1, z2, z3, z4, z5]) rfl ?_
  exact ⟨rfl, (((((HB1.out.setCell (by exact Nat.le_refl _) _).setCell (by exact Nat.le_refl _) _).setCell (by exact Nat.le_refl _) _).setCell (by exact Nat.le_refl _) _).setCell (by exact Nat.le_refl _) _).setCell (by exact Nat.le_refl _) _⟩

set_option maxRecDepth 100000 in
set_option maxHeartbeats 4000000 in
theorem dassign_bad (ao : Option Addr) (n c : Nat) (ra : Nat → Option Addr) (rn rc : Nat → Nat) (Q : Nat → Nat → Int) (w : World) (hlen : n ≤ 9223372036854775807) (hl : LRowsZ w ao n ra rn rc Q) (hf : sqFault n rn Q ≠ 0) :
    Calls Tryz.prog 40 #[.slice ao n c] w fun e w' => e = .returned (.tuple #[.agg zeroM, .int .i64 (sqFault n rn Q)]) ∧ Below w.heap.size w w' := by
  have HCF : Hid (∀ W, Below w.heap.size w W → _) := fun W hW => best_bad ao n c ra rn rc Q W hlen (hl.below hW) hf
  obtain ⟨F, hF⟩ : ∃ F, F = sqFault n rn Q := ⟨_, rfl⟩
  rw [← hF] at HCF hf ⊢
  clear hl hf hF
  go_enter Tryz.func40, Tryz.ntmps40
  go_wp2_with fail
  refine (HCF.out _ (below1 w _)).mono ?_
  rintro e1 w1 ⟨rfl, hb1⟩
  have HB1 : Hid (Below w.heap.size w w1) := (below1 w _).trans (hb1.mono (by simp))
  have hz1 : w1.heap[w.heap.size]? = some (.cells zeroM 86 (0, 0)) := (hb1.block _ (by simp)).trans (heap_alloc_new w _)
  obtain ⟨zl, z0, z1, z2, z3, z4, z5, zf⟩ := six_at hz1
  clear hb1 hz1 HCF
  unfold zeroM
  go_wp2_with go_in
  refine bodyPost_ret (v := .tuple #[.agg zeroM, .int .i64 F]) (by simp [results, Tryz.results40, go_sem, zeroM, z0, z1, z2, z3, z4, z5]) rfl ?_
  exact ⟨rfl, (((((HB1.out.setCell (by exact Nat.le_refl _) _).setCell (by exact Nat.le_refl _) _).setCell (by exact Nat.le_refl _) _).setCell (by exact Nat.le_refl _) _).setCell (by exact Nat.le_refl _) _).setCell (by exact Nat.le_refl _) _⟩
end Go.Proofs.YtebinaopncclgaaGreatDoor
namespace Go.Proofs.YtebinaopncclgaaGreatDoor
open Go.RowKit Go.IntWalk

/- rows that have too few columns, as the document counts them -/
theorem cols_few {n : Nat} {C : Nat → Nat → Int} {S T : Nat → Bool} (h : Short n C S T) : colsN C (fun i => ((List.range n).filter S).getD i 0) ((List.range n).filter S).length n < ((List.range n).filter S).length := by
  refine Nat.lt_of_le_of_lt ?_ h.few
  unfold colsN dnN
  refine nodup_sub _ _ (List.filter_sublist.nodup List.nodup_range) fun j hj => ?_
  obtain ⟨h1, h2⟩ := List.mem_filter.1 hj
  obtain ⟨i, hi, hc⟩ := hitN_is _ h2
  have hg : ((List.range n).filter S).getD i 0 = ((List.range n).filter S)[i] := by rw [List.getD_eq_getElem?_getD, List.getElem?_eq_getElem hi]; rfl
  rw [hg] at hc
  have h3 := List.mem_filter.1 (List.getElem_mem hi)
  exact List.mem_filter.2 ⟨h1, h.open_ _ j (by simpa using h3.1) (by simpa using h1) h3.2 hc⟩

set_option maxRecDepth 100000 in
set_option maxHeartbeats 4000000 in
theorem rassigned_bad (ao : Option Addr) (n c : Nat) (ra : Nat → Option Addr) (rn rc : Nat → Nat) (Q : Nat → Nat → Int) (w : World) (hlen : n ≤ 9223372036854775807) (hl : LRowsZ w ao n ra rn rc Q) (hf : sqFault n rn Q ≠ 0) :
    Calls Tryz.prog 42 #[.slice ao n c, .agg zeroM, .int .i64 (sqFault n rn Q)] w fun e w' => e = .returned (.bool true) ∧ Below w.heap.size w w' := by
  have HCF : Hid (∀ W, Below w.heap.size w W → _) := fun W hW => rsquare_any ao n c ra rn rc Q W hlen (hl.below hW)
  obtain ⟨F, hF⟩ : ∃ F, F = sqFault n rn Q := ⟨_, rfl⟩
  rw [← hF] at HCF hf ⊢
  have hne : (F != 0) = true := by simpa using hf
  have heq : (F == F) = true := by simp
  clear hl hf hF
  unfold zeroM
  go_enter Tryz.func42, Tryz.ntmps42
  go_wp2_with fail
  refine (HCF.out _ (below1 w _)).mono ?_
  rintro e1 w1 ⟨rfl, hb1⟩
  have HB1 : Hid (Below w.heap.size w w1) := (below1 w _).trans (hb1.mono (by simp))
  have hz1 : w1.heap[w.heap.size]? = some (.cells zeroM 86 (0, 0)) := (hb1.block _ (by simp)).trans (heap_alloc_new w _)
  obtain ⟨zl, z0, z1, z2, z3, z4, z5, zf⟩ := six_at hz1
  clear hb1 hz1 HCF
  go_wp2_with go_in
  go_ret
  exact ⟨rfl, HB1.out⟩

theorem tight_cost {n : Nat} {C : Nat → Nat → Int} {col u v : Nat → Int} {cost : Int} (hc : CellOk n C) (ht : Tight n C col u v cost) : 0 ≤ cost := by
  rw [ht.tcost]
  have : ∀ k, k ≤ n → 0 ≤ sumL (fun i => C i (col i).toNat) (List.range k) := by
    intro k
    induction k with
    | zero => intro _; simp [sumL]
    | succ k ih =>
      intro hk
      obtain ⟨a, h1, h2, h3⟩ := ht.tcol k (by omega)
      have h4 := hc k a (by omega) h2
      have h5 : (col k).toNat = a := by rw [h1]; rfl
      rw [sumL_next, h5]
      have := ih (by omega)
      omega
  exact this n (Nat.le_refl _)

set_option maxRecDepth 100000 in
set_option maxHeartbeats 4000000 in
theorem rassigned_short (ao : Option Addr) (n c : Nat) (ra : Nat → Option Addr) (rn rc : Nat → Nat) (C : Nat → Nat → Int) (B : Nat) (x : Value) (S T : Nat → Bool) (w : World) (hl : LRowsZ w ao n ra rn rc C) (hf : sqFault n rn C = 0) (hx : w.ownsRow B 3 1 x ((List.range n).filter S).length (ints (((List.range n).filter S).map fun (i : Nat) => (i : Int)))) (hs : Short n C S T) :
    Calls Tryz.prog 42 #[.slice ao n c, .agg #[.bool false, .int .i64 0, .slice none 0 0, .slice none 0 0, .slice none 0 0, x], .int .i64 0] w fun e w' => e = .returned (.bool true) ∧ Below w.heap.size w w' := by
  obtain ⟨hn, hrn, hc⟩ := sqFault_is hf
  have HSQ : Hid (∀ W, Below w.heap.size w W → SqI W (.slice ao n c) n C) := fun W hW => (hl.below hW).sq hn hrn
  have HCF : Hid (∀ W, Below w.heap.size w W → Calls Tryz.prog 81 #[.slice ao n c] W fun e w' => e = .returned (.int .i64 0) ∧ Below W.heap.size W w') := fun W hW => by
    have h := rsquare_any ao n c ra rn rc C W (by omega) (hl.below hW)
    rw [hf] at h; exact h
  have HLO : Hid (∀ W, Below w.heap.size w W → Calls Tryz.prog 82 #[.slice ao n c] W fun e w' => e = .returned (.int .i64 (-1)) ∧ Below W.heap.size W w') := fun W hW => by
    have h := rlowest_any n C (.slice ao n c) W (HSQ.out W hW) hc
    rw [low_short hc hs] at h; exact h
  obtain ⟨m, hm⟩ : ∃ m, m = ((List.range n).filter S).length := ⟨_, rfl⟩
  obtain ⟨ax, cx, hxv, hx1, hx2⟩ := own_val hx
  have hmn : m ≤ n := by rw [hm]; exact Nat.le_trans (List.length_filter_le _ _) (by simp)
  have hget : ∀ i (h : i < m), ((List.range n).filter S).getD i 0 = ((List.range n).filter S)[i]'(by omega) := fun i h => by
    rw [List.getD_eq_getElem?_getD, List.getElem?_eq_getElem (by omega)]; rfl
  have HSH : Hid (∀ W, Below w.heap.size w W → Calls Tryz.prog 83 #[.slice ao n c, x] W fun e w' => e = .returned (.bool true) ∧ Below W.heap.size W w') := fun W hW => by
    refine rshort_any _ x n m C (fun i => ((List.range n).filter S).getD i 0) W hmn (HSQ.out W hW) ?_ (fun i h => ?_) (fun i h => ?_) (by rw [hm]; exact cols_few hs)
    · rw [← hm] at hxv
      refine ⟨ax, cx, hxv, fun j hj => ?_⟩
      have hxo := own_below hx hW
      cases ax with
      | none => exact absurd (hx2 rfl) (by omega)
      | some a =>
        obtain ⟨g, rfl, _, hg⟩ := hx1 a rfl
        refine ⟨g, 0, rfl, Nat.lt_of_lt_of_le hg hW.size, ?_⟩
        rw [hxv, ← hm] at hxo
        have := hxo.cellAt j (by omega)
        rw [Nat.zero_add, this]
        show _ = some (Value.int .i64 ((((List.range n).filter S).getD j 0 : Nat) : Int))
        rw [hget j hj]
        unfold ints
        simp [show j < ((List.range n).filter S).length by omega]
    · show ((List.range n).filter S).getD i 0 < n
      rw [hget i h]
      have h1 := List.mem_filter.1 (List.getElem_mem (l := (List.range n).filter S) (n := i) (by omega))
      simpa using h1.1
    · show ((List.range n).filter S).getD i 0 < ((List.range n).filter S).getD (i + 1) 0
      rw [hget i (by omega), hget (i + 1) h]
      have hp : ((List.range n).filter S).Pairwise (· < ·) := List.Pairwise.filter _ List.pairwise_lt_range
      exact List.pairwise_iff_getElem.1 hp i (i + 1) (by omega) (by omega) (by omega)
  subst hxv
  clear hl hf hx hs hc hm hget hx1 hx2 HSQ
  go_enter Tryz.func42, Tryz.ntmps42
  go_wp2_with fail
  refine (HCF.out _ (below1 w _)).mono ?_
  rintro e1 w1 ⟨rfl, hb1⟩
  have HB1 : Hid (Below w.heap.size w w1) := (below1 w _).trans (hb1.mono (by simp))
  have hz1 := (hb1.block w.heap.size (by simp)).trans (heap_alloc_new w _)
  have HZ1 := hid hz1
  obtain ⟨zl, z0, z1, z2, z3, z4, z5, zf⟩ := six_at hz1
  clear hb1 hz1 HCF
  go_wp2_with fail
  refine (HLO.out _ HB1.out).mono ?_
  rintro e2 w2 ⟨rfl, hb2⟩
  have HB2 : Hid (Below w.heap.size w w2) := HB1.out.trans (hb2.mono HB1.out.size)
  have hz2 := (hb2.block w.heap.size zl).trans HZ1.out
  have HZ2 := hid hz2
  clear zl z0 z1 z2 z3 z4 z5 zf
  obtain ⟨zl, z0, z1, z2, z3, z4, z5, zf⟩ := six_at hz2
  clear hb2 hz2 HLO HZ1 HB1
  go_wp2_with fail
  refine (HSH.out _ HB2.out).mono ?_
  rintro e3 w3 ⟨rfl, hb3⟩
  have HB3 : Hid (Below w.heap.size w w3) := HB2.out.trans (hb3.mono HB2.out.size)
  clear hb3 HSH
  go_wp2_with go_in
  go_ret
  exact ⟨rfl, HB3.out⟩

set_option maxRecDepth 100000 in
set_option maxHeartbeats 4000000 in
theorem rassigned_tight (ao : Option Addr) (n c : Nat) (ra : Nat → Option Addr) (rn rc : Nat → Nat) (C : Nat → Nat → Int) (g1 g2 g3 : Nat) (col u v : Nat → Int) (cost : Int) (w : World) (hl : LRowsZ w ao n ra rn rc C) (hf : sqFault n rn C = 0) (r1 : RowAt w g1 n col) (r2 : RowAt w g2 n u) (r3 : RowAt w g3 n v) (ht : Tight n C col u v cost) :
    Calls Tryz.prog 42 #[.slice ao n c, .agg #[.bool true, .int .i64 cost, .slice (some ⟨g1, 0, none⟩) n n, .slice (some ⟨g2, 0, none⟩) n n, .slice (some ⟨g3, 0, none⟩) n n, .slice none 0 0], .int .i64 0] w fun e w' => e = .returned (.bool true) ∧ Below w.heap.size w w' := by
  obtain ⟨hn, hrn, hc⟩ := sqFault_is hf
  have HSQ : Hid (∀ W, Below w.heap.size w W → SqI W (.slice ao n c) n C) := fun W hW => (hl.below hW).sq hn hrn
  have HCF : Hid (∀ W, Below w.heap.size w W → Calls Tryz.prog 81 #[.slice ao n c] W fun e w' => e = .returned (.int .i64 0) ∧ Below W.heap.size W w') := fun W hW => by
    have h := rsquare_any ao n c ra rn rc C W (by omega) (hl.below hW)
    rw [hf] at h; exact h
  have HLO : Hid (∀ W, Below w.heap.size w W → Calls Tryz.prog 82 #[.slice ao n c] W fun e w' => e = .returned (.int .i64 cost) ∧ Below W.heap.size W w') := fun W hW => by
    have h := rlowest_any n C (.slice ao n c) W (HSQ.out W hW) hc
    rw [low_tight hc ht] at h; exact h
  have HR1 : Hid (∀ W, Below w.heap.size w W → IRow W (.slice (some ⟨g1, 0, none⟩) n n) n col) := fun W hW => (r1.block (hW.block _ r1.lt)).irow
  have HR2 : Hid (∀ W, Below w.heap.size w W → IRow W (.slice (some ⟨g2, 0, none⟩) n n) n u) := fun W hW => (r2.block (hW.block _ r2.lt)).irow
  have HR3 : Hid (∀ W, Below w.heap.size w W → IRow W (.slice (some ⟨g3, 0, none⟩) n n) n v) := fun W hW => (r3.block (hW.block _ r3.lt)).irow
  have HPK : Hid (∀ W, Below w.heap.size w W → Calls Tryz.prog 84 #[.slice ao n c, .slice (some ⟨g1, 0, none⟩) n n] W fun e w' => e = .returned (.int .i64 cost) ∧ Below W.heap.size W w') := fun W hW => rpicked_any n C _ _ col u v cost W (HSQ.out W hW) (HR1.out W hW) hc ht
  obtain ⟨su, hsu⟩ : ∃ su, su = sumL u (List.range n) := ⟨_, rfl⟩
  obtain ⟨sv, hsv⟩ : ∃ sv, sv = sumL v (List.range n) := ⟨_, rfl⟩
  have HSU : Hid (∀ W, Below w.heap.size w W → Calls Tryz.prog 85 #[.slice (some ⟨g2, 0, none⟩) n n] W fun e w' => e = .returned (.tuple #[.int .i64 su, .bool true]) ∧ Below W.heap.size W w') := fun W hW => by
    rw [hsu]; exact rsum_any _ n u W hn (HR2.out W hW) ht.ubd
  have HSV : Hid (∀ W, Below w.heap.size w W → Calls Tryz.prog 85 #[.slice (some ⟨g3, 0, none⟩) n n] W fun e w' => e = .returned (.tuple #[.int .i64 sv, .bool true]) ∧ Below W.heap.size W w') := fun W hW => by
    rw [hsv]; exact rsum_any _ n v W hn (HR3.out W hW) ht.vbd
  have HUN : Hid (∀ W, Below w.heap.size w W → Calls Tryz.prog 86 #[.slice ao n c, .slice (some ⟨g2, 0, none⟩) n n, .slice (some ⟨g3, 0, none⟩) n n] W fun e w' => e = .returned (.bool true) ∧ Below W.heap.size W w') := fun W hW => runder_any _ _ _ n C u v W (HSQ.out W hW) (HR2.out W hW) (HR3.out W hW) ht.ubd ht.vbd ht.under
  have hsum : su + sv = cost := by rw [hsu, hsv, ht.sum, sumL_add]
  have hcost := tight_cost hc ht
  have hub := sumL_bound (n := n) ht.ubd n (Nat.le_refl _)
  have hvb := sumL_bound (n := n) ht.vbd n (Nat.le_refl _)
  rw [← hsu] at hub
  rw [← hsv] at hvb
  have wz : IntKind.i64.wrap (su + sv) = su + sv := i64_fits _ (by omega)
  have e1 : (cost == (-1 : Int)) = false := by simp; omega
  have e2 : (su + sv == cost) = true := by simp [hsum]
  have e3 : (cost == cost) = true := by simp
  have e4 : (cost != cost) = false := by simp
  have l1 : Hid (g1 < w.heap.size ∧ g2 < w.heap.size ∧ g3 < w.heap.size) := ⟨r1.lt, r2.lt, r3.lt⟩
  clear hl hf ht hc r1 r2 r3 hsu hsv hub hvb HSQ HR1 HR2 HR3 hsum hcost
  go_enter Tryz.func42, Tryz.ntmps42
  go_wp2_with fail
  refine (HCF.out _ (below1 w _)).mono ?_
  rintro e1' w1 ⟨rfl, hb1⟩
  have HB1 : Hid (Below w.heap.size w w1) := (below1 w _).trans (hb1.mono (by simp))
  have hz1 := (hb1.block w.heap.size (by simp)).trans (heap_alloc_new w _)
  have HZ1 := hid hz1
  obtain ⟨zl, z0, z1, z2, z3, z4, z5, zf⟩ := six_at hz1
  clear hb1 hz1 HCF
  go_wp2_with fail
  refine (HLO.out _ HB1.out).mono ?_
  rintro e2' w2 ⟨rfl, hb2⟩
  have HB2 : Hid (Below w.heap.size w w2) := HB1.out.trans (hb2.mono HB1.out.size)
  have hz2 := (hb2.block w.heap.size zl).trans HZ1.out
  have HZ2 := hid hz2
  clear zl z0 z1 z2 z3 z4 z5 zf
  obtain ⟨zl, z0, z1, z2, z3, z4, z5, zf⟩ := six_at hz2
  clear hb2 hz2 HLO HZ1 HB1
  go_wp2_with fail
  refine (HPK.out _ HB2.out).mono ?_
  rintro e3' w3 ⟨rfl, hb3⟩
  have HB3 : Hid (Below w.heap.size w w3) := HB2.out.trans (hb3.mono HB2.out.size)
  have hz3 := (hb3.block w.heap.size zl).trans HZ2.out
  have HZ3 := hid hz3
  clear zl z0 z1 z2 z3 z4 z5 zf
  obtain ⟨zl, z0, z1, z2, z3, z4, z5, zf⟩ := six_at hz3
  clear hb3 hz3 HPK HZ2 HB2
  go_wp2_with fail
  refine (HSU.out _ HB3.out).mono ?_
  rintro e4' w4 ⟨rfl, hb4⟩
  have HB4 : Hid (Below w.heap.size w w4) := HB3.out.trans (hb4.mono HB3.out.size)
  have hz4 := (hb4.block w.heap.size zl).trans HZ3.out
  have HZ4 := hid hz4
  clear zl z0 z1 z2 z3 z4 z5 zf
  obtain ⟨zl, z0, z1, z2, z3, z4, z5, zf⟩ := six_at hz4
  clear hb4 hz4 HSU HZ3 HB3
  go_wp2_with fail
  refine (HSV.out _ HB4.out).mono ?_
  rintro e5' w5 ⟨rfl, hb5⟩
  have HB5 : Hid (Below w.heap.size w w5) := HB4.out.trans (hb5.mono HB4.out.size)
  have hz5 := (hb5.block w.heap.size zl).trans HZ4.out
  clear zl z0 z1 z2 z3 z4 z5 zf
  obtain ⟨zl, z0, z1, z2, z3, z4, z5, zf⟩ := six_at hz5
  clear hb5 hz5 HSV HZ4 HB4
  go_wp2_with fail
  refine (HUN.out _ HB5.out).mono ?_
  rintro e6' w6 ⟨rfl, hb6⟩
  have HB6 : Hid (Below w.heap.size w w6) := HB5.out.trans (hb6.mono HB5.out.size)
  clear hb6 HUN HB5
  go_wp2_with go_in
  go_ret
  exact ⟨rfl, HB6.out⟩
end Go.Proofs.YtebinaopncclgaaGreatDoor
