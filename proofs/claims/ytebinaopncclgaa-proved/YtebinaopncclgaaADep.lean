/- Walks: Assign of any square. -/
import Derived.Test.YtebinaopncclgaaAFault
namespace Go.Proofs.Ytebinaopncclgaa
open Go.RowKit Go.IntWalk

set_option maxRecDepth 100000 in
set_option maxHeartbeats 2000000 in
theorem passign_any (n : Nat) (C : Nat → Nat → Int) (vc : Value) (w : World) (hn : n ≤ 10) (hsq : SqR w vc n C) (hc : CellOk n C) : Calls Try.prog 18 #[vc] w (BestLeft w n C) := by
  have HC : Hid (∀ W, Below w.heap.size w W → Calls Try.prog 34 #[vc] W (BestLeft W n C)) := fun W hW => best_any n C vc W hn (hsq.below hW) hc
  obtain ⟨af, cf, hvc, _, _⟩ := hsq
  subst hvc
  clear hc
  go_enter Try.func18, Try.ntmps18
  go_wp2_with fail
  refine (HC.out _ (below1 w _)).mono ?_
  rintro e1 w1 ⟨hb1, hcase⟩
  have HB1 : Hid (Below w.heap.size w w1) := (below1 w _).trans (hb1.mono (by simp))
  have hz1 : w1.heap[w.heap.size]? = some (.cells #[.bool false, .int .i64 0, .slice none 0 0, .slice none 0 0, .slice none 0 0, .slice none 0 0] 49 (0, 0)) := (hb1.block _ (by simp)).trans (heap_alloc_new w _)
  obtain ⟨zl, z0, z1, z2, z3, z4, z5, zf⟩ := six_at hz1
  have hsz : (w.alloc (.cells #[.bool false, .int .i64 0, .slice none 0 0, .slice none 0 0, .slice none 0 0, .slice none 0 0] 49)).heap.size = w.heap.size + 1 := by simp
  rcases hcase with ⟨g1, g2, g3, col, u, v, cost, rfl, l1, l2, l3, n12, n13, n23, r1, r2, r3, htt⟩ | ⟨y, S, T, rfl, hy, hsh⟩
  · rw [hsz] at l1 l2 l3
    have HR1 := hid r1
    have HR2 := hid r2
    have HR3 := hid r3
    have HTT := hid htt
    have hg1 : g1 ≠ w.heap.size := by omega
    have hg2 : g2 ≠ w.heap.size := by omega
    have hg3 : g3 ≠ w.heap.size := by omega
    clear r1 r2 r3 htt hb1 hz1 hsz HC
    go_wp2_with fail
    refine bodyPost_ret (v := .tuple #[.agg #[.bool true, .int .i64 cost, .slice (some ⟨g1, 0, none⟩) n n, .slice (some ⟨g2, 0, none⟩) n n, .slice (some ⟨g3, 0, none⟩) n n, .slice none 0 0], .int .i64 0]) (by simp [results, Try.results18, go_sem, z0, z1, z2, z3, z4, z5]) rfl ?_
    refine ⟨(((((HB1.out.setCell (by exact Nat.le_refl _) _).setCell (by exact Nat.le_refl _) _).setCell (by exact Nat.le_refl _) _).setCell (by exact Nat.le_refl _) _).setCell (by exact Nat.le_refl _) _).setCell (by exact Nat.le_refl _) _, .inl ⟨g1, g2, g3, col, u, v, cost, rfl, by omega, by omega, by omega, n12, n13, n23, ?_, ?_, ?_, HTT.out⟩⟩
    · exact (((((HR1.out.aside hg1 _).aside hg1 _).aside hg1 _).aside hg1 _).aside hg1 _).aside hg1 _
    · exact (((((HR2.out.aside hg2 _).aside hg2 _).aside hg2 _).aside hg2 _).aside hg2 _).aside hg2 _
    · exact (((((HR3.out.aside hg3 _).aside hg3 _).aside hg3 _).aside hg3 _).aside hg3 _).aside hg3 _
  · rw [hsz] at hy
    obtain ⟨ay, cy, hyv, _, _⟩ := own_val hy
    have HY := hid hy
    have HSH := hid hsh
    subst hyv
    have hlt3 : w.heap.size < w.heap.size + 1 := by omega
    clear hy hsh hb1 hz1 hsz HC
    go_wp2_with fail
    refine bodyPost_ret (v := .tuple #[.agg #[.bool false, .int .i64 0, .slice none 0 0, .slice none 0 0, .slice none 0 0, .slice ay ((List.range n).filter S).length cy], .int .i64 0]) (by simp [results, Try.results18, go_sem, z0, z1, z2, z3, z4, z5]) rfl ?_
    refine ⟨(((((HB1.out.setCell (by exact Nat.le_refl _) _).setCell (by exact Nat.le_refl _) _).setCell (by exact Nat.le_refl _) _).setCell (by exact Nat.le_refl _) _).setCell (by exact Nat.le_refl _) _).setCell (by exact Nat.le_refl _) _, .inr ⟨_, S, T, rfl, ?_, HSH.out⟩⟩
    exact own_base (own_aside (own_aside (own_aside (own_aside (own_aside (own_aside HY.out hlt3) hlt3) hlt3) hlt3) hlt3) hlt3) (by omega)

def zeroM : Array Value := #[.bool false, .int .i64 0, .slice none 0 0, .slice none 0 0, .slice none 0 0, .slice none 0 0]
set_option maxRecDepth 100000 in
set_option maxHeartbeats 4000000 in
theorem best_bad (ao : Option Addr) (n c : Nat) (ra : Nat → Option Addr) (rn rc : Nat → Nat) (Q : Nat → Nat → Int) (w : World) (hlen : n ≤ 9223372036854775807) (hl : LRowsZ w ao n ra rn rc Q) (hf : sqFault n rn Q ≠ 0) :
    Calls Try.prog 34 #[.slice ao n c] w fun e w' => e = .returned (.tuple #[.agg zeroM, .int .i64 (sqFault n rn Q)]) ∧ Below w.heap.size w w' := by
  have HCF : Hid (∀ W, Below w.heap.size w W → _) := fun W hW => cellFault_any ao n c ra rn rc Q W hlen (hl.below hW)
  obtain ⟨F, hF⟩ : ∃ F, F = sqFault n rn Q := ⟨_, rfl⟩
  rw [← hF] at HCF hf ⊢
  have hne : (F != 0) = true := by simpa using hf
  clear hl hf hF
  go_enter Try.func34, Try.ntmps34
  go_wp2_with fail
  refine (HCF.out _ (below1 w _)).mono ?_
  rintro e1 w1 ⟨rfl, hb1⟩
  have HB1 : Hid (Below w.heap.size w w1) := (below1 w _).trans (hb1.mono (by simp))
  have hz1 : w1.heap[w.heap.size]? = some (.cells zeroM 49 (0, 0)) := (hb1.block _ (by simp)).trans (heap_alloc_new w _)
  obtain ⟨zl, z0, z1, z2, z3, z4, z5, zf⟩ := six_at hz1
  clear hb1 hz1 HCF
  go_wp2_with go_in
  refine bodyPost_ret (v := .tuple #[.agg zeroM, .int .i64 F]) (by simp [results, Try.results34, go_sem, zeroM, z0, z1, z2, z3, z4, z5]) rfl ?_
  exact ⟨rfl, (((((HB1.out.setCell (by exact Nat.le_refl _) _).setCell (by exact Nat.le_refl _) _).setCell (by exact Nat.le_refl _) _).setCell (by exact Nat.le_refl _) _).setCell (by exact Nat.le_refl _) _).setCell (by exact Nat.le_refl _) _⟩

set_option maxRecDepth 100000 in
set_option maxHeartbeats 4000000 in
theorem dassign_bad (ao : Option Addr) (n c : Nat) (ra : Nat → Option Addr) (rn rc : Nat → Nat) (Q : Nat → Nat → Int) (w : World) (hlen : n ≤ 9223372036854775807) (hl : LRowsZ w ao n ra rn rc Q) (hf : sqFault n rn Q ≠ 0) :
    Calls Try.prog 18 #[.slice ao n c] w fun e w' => e = .returned (.tuple #[.agg zeroM, .int .i64 (sqFault n rn Q)]) ∧ Below w.heap.size w w' := by
  have HCF : Hid (∀ W, Below w.heap.size w W → _) := fun W hW => best_bad ao n c ra rn rc Q W hlen (hl.below hW) hf
  obtain ⟨F, hF⟩ : ∃ F, F = sqFault n rn Q := ⟨_, rfl⟩
  rw [← hF] at HCF hf ⊢
  clear hl hf hF
  go_enter Try.func18, Try.ntmps18
  go_wp2_with fail
  refine (HCF.out _ (below1 w _)).mono ?_
  rintro e1 w1 ⟨rfl, hb1⟩
  have HB1 : Hid (Below w.heap.size w w1) := (below1 w _).trans (hb1.mono (by simp))
  have hz1 : w1.heap[w.heap.size]? = some (.cells zeroM 49 (0, 0)) := (hb1.block _ (by simp)).trans (heap_alloc_new w _)
  obtain ⟨zl, z0, z1, z2, z3, z4, z5, zf⟩ := six_at hz1
  clear hb1 hz1 HCF
  unfold zeroM
  go_wp2_with go_in
  refine bodyPost_ret (v := .tuple #[.agg zeroM, .int .i64 F]) (by simp [results, Try.results18, go_sem, zeroM, z0, z1, z2, z3, z4, z5]) rfl ?_
  exact ⟨rfl, (((((HB1.out.setCell (by exact Nat.le_refl _) _).setCell (by exact Nat.le_refl _) _).setCell (by exact Nat.le_refl _) _).setCell (by exact Nat.le_refl _) _).setCell (by exact Nat.le_refl _) _).setCell (by exact Nat.le_refl _) _⟩
end Go.Proofs.Ytebinaopncclgaa
