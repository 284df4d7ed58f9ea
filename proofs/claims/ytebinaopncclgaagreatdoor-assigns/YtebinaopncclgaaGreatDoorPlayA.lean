/- Walks of the statements: one step: Assign. -/
import Derived.Test.YtebinaopncclgaaGreatDoorHoldM
import Derived.Test.YtebinaopncclgaaGreatDoorLentS
import Derived.Test.YtebinaopncclgaaGreatDoorLAsg
namespace Go.Proofs.YtebinaopncclgaaGreatDoor
open Go.RowKit Go.IntWalk

theorem op_m {o : OpV} {W : World} {b : Nat} (h : W.heap[b]? = some (.cells o.vals 39 (0, 0))) : b < W.heap.size ∧ W.cell? ⟨b, 0, none⟩ = some (.int .i64 o.k) ∧ W.cell? ⟨b, 5, none⟩ = some (.slice o.am o.nm o.cm) := ⟨(Array.getElem?_eq_some_iff.1 h).1, by rw [cell_of_row _ _ _ _ _ _ h]; rfl, by rw [cell_of_row _ _ _ _ _ _ h]; rfl⟩

/- what Assign of a square that was lent leaves: lists of its own, an answer that may be -/
def AsgPost (o : OpV) (W : World) (e : Ending) (w' : World) : Prop :=
  ∃ x0 x1 v1 v2 v3 v4 n1 n2 n3 n4 y1 y2 y3 y4 F, e = .returned (.tuple #[.agg #[x0, x1, v1, v2, v3, v4], .int .i64 F]) ∧ (-9223372036854775808 ≤ F ∧ F ≤ 9223372036854775807) ∧ Below W.heap.size W w' ∧ w'.ownsRow W.heap.size 3 1 v1 n1 y1 ∧ w'.ownsRow W.heap.size 3 1 v2 n2 y2 ∧ w'.ownsRow W.heap.size 3 1 v3 n3 y3 ∧ w'.ownsRow W.heap.size 3 1 v4 n4 y4 ∧
    (∀ q, v1.ownBlock = some q → v2.ownBlock ≠ some q) ∧ (∀ q, v1.ownBlock = some q → v3.ownBlock ≠ some q) ∧ (∀ q, v2.ownBlock = some q → v3.ownBlock ≠ some q) ∧ (v4.ownBlock = none ∨ (v1.ownBlock = none ∧ v2.ownBlock = none ∧ v3.ownBlock = none)) ∧
    ((∃ b0, x0 = .bool b0) ∧ ∃ c0, x1 = .int .i64 c0) ∧
    ∀ W', Below w'.heap.size w' W' → Calls Tryz.prog 42 #[.slice o.am o.nm o.cm, .agg #[x0, x1, v1, v2, v3, v4], .int .i64 F] W' fun e2 w2 => e2 = .returned (.bool true) ∧ Below W'.heap.size W' w2
theorem LRowsZ.on {w0 W : World} {ao : Option Addr} {n : Nat} {ra : Nat → Option Addr} {rn rc : Nat → Nat} {Q : Nat → Nat → Int} (hM : LRowsZ w0 ao n ra rn rc Q) (hW : Below w0.heap.size w0 W) : LRowsZ W ao n ra rn rc Q := hM.below hW
theorem LRowsZ.fits {w0 : World} {ao : Option Addr} {n : Nat} {ra : Nat → Option Addr} {rn rc : Nat → Nat} {Q : Nat → Nat → Int} (hM : LRowsZ w0 ao n ra rn rc Q) : ∀ i, i < n → rn i ≤ 9223372036854775807 ∧ ∀ j, j < rn i → -9223372036854775808 ≤ Q i j ∧ Q i j ≤ 9223372036854775807 := fun i hi => by
  obtain ⟨b, oo, k1, k2, k3⟩ := hM (by omega)
  obtain ⟨q1, q2, q3⟩ := k3 i hi
  refine ⟨q2, fun j hj => ?_⟩
  obtain ⟨b', o', r1, r2, r3⟩ := q3 (by omega)
  exact (r3 j hj).2
theorem fault_bd (n : Nat) (rn : Nat → Nat) (Q : Nat → Nat → Int) : -9223372036854775808 ≤ sqFault n rn Q ∧ sqFault n rn Q ≤ 9223372036854775807 := by
  unfold sqFault
  split
  · omega
  · split
    · split <;> omega
    · omega
theorem asg_any (w0 : World) (o : OpV) (ra : Nat → Option Addr) (rn rc : Nat → Nat) (Q : Nat → Nat → Int) (hM : LRowsZ w0 o.am o.nm ra rn rc Q) (hn : o.nm * 24 ≤ 140737488355328) (W : World) (hW : Below w0.heap.size w0 W) (B g : Nat) (G : Nat → Nat) (hl : LentSq W B g o.nm G rn Q) :
    Calls Tryz.prog 40 #[.slice (some ⟨g, 0, none⟩) o.nm (o.nm + 1)] W (AsgPost o W) := by
  have hfit := hM.fits
  by_cases hf : sqFault o.nm rn Q = 0
  · obtain ⟨hn10, hrow, hcell⟩ := sqFault_is hf
    refine (passign_any o.nm Q _ W hn10 (hl.sq hn10 hrow) hcell).mono ?_
    rintro e w' ⟨hb, hcase⟩
    have hbl : Below w0.heap.size w0 w' := hW.trans (hb.mono hW.size)
    rcases hcase with ⟨g1, g2, g3, col, u, v, cost, rfl, l1, l2, l3, n12, n13, n23, r1, r2, r3, htt⟩ | ⟨y, S, T, rfl, hy, hsh⟩
    · obtain ⟨z1, o1⟩ := r1.own l1 hn10
      obtain ⟨z2, o2⟩ := r2.own l2 hn10
      obtain ⟨z3, o3⟩ := r3.own l3 hn10
      refine ⟨_, _, _, _, _, _, _, _, _, 0, _, _, _, [], 0, rfl, by omega, hb, o1, o2, o3, World.ownsRow_nil _ _ _ _, fun q h1 h2 => ?_, fun q h1 h2 => ?_, fun q h1 h2 => ?_, .inl rfl, ⟨⟨_, rfl⟩, ⟨_, rfl⟩⟩, fun W' hW' => ?_⟩
      · simp only [Value.ownBlock, Option.some.injEq] at h1 h2; omega
      · simp only [Value.ownBlock, Option.some.injEq] at h1 h2; omega
      · simp only [Value.ownBlock, Option.some.injEq] at h1 h2; omega
      · exact rassigned_tight o.am o.nm o.cm ra rn rc Q g1 g2 g3 col u v cost W' (hM.on (hbl.trans (hW'.mono hbl.size))) hf (r1.block (hW'.block _ r1.lt)) (r2.block (hW'.block _ r2.lt)) (r3.block (hW'.block _ r3.lt)) htt
    · refine ⟨_, _, _, _, _, _, 0, 0, 0, _, [], [], [], _, 0, rfl, by omega, hb, World.ownsRow_nil _ _ _ _, World.ownsRow_nil _ _ _ _, World.ownsRow_nil _ _ _ _, hy, fun q h1 => (by cases h1), fun q h1 => (by cases h1), fun q h1 => (by cases h1), .inr ⟨rfl, rfl, rfl⟩, ⟨⟨_, rfl⟩, ⟨_, rfl⟩⟩, fun W' hW' => ?_⟩
      exact rassigned_short o.am o.nm o.cm ra rn rc Q W.heap.size y S T W' (hM.on (hbl.trans (hW'.mono hbl.size))) hf (own_below hy hW') hsh
  · refine (dassign_bad (some ⟨g, 0, none⟩) o.nm (o.nm + 1) _ rn _ Q W (by omega) (hl.rows (fun i hi => (hfit i hi).1) (fun i hi j hj => (hfit i hi).2 j hj)) hf).mono ?_
    rintro e w' ⟨rfl, hb⟩
    have hbl : Below w0.heap.size w0 w' := hW.trans (hb.mono hW.size)
    refine ⟨_, _, _, _, _, _, 0, 0, 0, 0, [], [], [], [], _, rfl, fault_bd _ _ _, hb, World.ownsRow_nil _ _ _ _, World.ownsRow_nil _ _ _ _, World.ownsRow_nil _ _ _ _, World.ownsRow_nil _ _ _ _, fun q h1 => (by cases h1), fun q h1 => (by cases h1), fun q h1 => (by cases h1), .inl rfl, ⟨⟨_, rfl⟩, ⟨_, rfl⟩⟩, fun W' hW' => ?_⟩
    exact rassigned_bad o.am o.nm o.cm ra rn rc Q W' (by omega) (hM.on (hbl.trans (hW'.mono hbl.size))) hf

set_option maxRecDepth 100000 in
set_option maxHeartbeats 4000000 in
theorem inst_assign (w0 : World) (hb a m : Nat) (o : OpV) (ra : Nat → Option Addr) (rn rc : Nat → Nat) (Q : Nat → Nat → Int) (w : World) (ho : o.k = 6) (hM : LRowsZ w0 o.am o.nm ra rn rc Q) (hn : o.nm * 24 ≤ 140737488355328) (hrn : ∀ i, i < o.nm → rn i * 8 ≤ 140737488355328)
    (h : HoldInvB w w0.heap.size hb a m) (ha : a ≤ 9100000000000) (hw0 : Below w0.heap.size w0 w) :
    Calls Tryz.prog 15 #[.pointer (some ⟨hb, 0, none⟩), .agg o.vals] w fun e w' => e = .returned (.bool true) ∧ HoldInvB w' w0.heap.size hb (a + 4) m ∧ Below w0.heap.size w w' := by
  obtain ⟨vi, vr, vs, vd, vn, I, R, S, D, N, h1, h2, h3, h4, h5, h6, h7⟩ := h
  have HH := hid h1
  have hbl : hb < w.heap.size := (Array.getElem?_eq_some_iff.1 h1.box).1
  have HM := hid hM
  have HRN := hid hrn
  have HW0 := hid hw0
  have hs0 := hw0.size
  have HOB := hid (op_box o w)
  have hVI : ∀ q, vi.ownBlock = some q → q < w.heap.size := fun q hq => (h1.oi.lt q hq).2
  have HVI := hid hVI
  have HA := hid (fun W hW B g G hl => asg_any w0 o ra rn rc Q hM hn W hW B g G hl)
  unfold OpV.vals
  rw [ho]
  clear h1 hM hrn hw0 hVI
  go_enter Tryz.func15, Tryz.ntmps15
  go_wp2_with fail
  rw [← ho]
  have hbo : Below w.heap.size w (w.alloc (.cells o.vals 39)) := below1 w _
  have hW0o := HW0.out.trans (hbo.mono hs0)
  refine (lentSq_any o.am o.nm o.cm ra rn rc Q _ hn HRN.out (HM.out.on hW0o)).mono ?_
  rintro e1 w1 ⟨g, G, rfl, hl1, hb1⟩
  have hso : (w.alloc (.cells o.vals 39)).heap.size = w.heap.size + 1 := by simp
  rw [hso] at hl1
  have hwo : Below w.heap.size w w1 := hbo.trans (hb1.mono (by simp))
  have hob1 := op_below HOB.out hb1
  obtain ⟨ol, o0, o5⟩ := op_m hob1
  have hlo1 := ol
  have HB1 := hid hwo
  have HL1 := hid hl1
  have HO1 := hid hob1
  clear hb1 hl1 hob1 hwo hbo hW0o HOB hso
  go_wp2_with fail
  have hs1 := HB1.out.size
  refine (HA.out w1 (HW0.out.trans (HB1.out.mono hs0)) _ g G HL1.out).mono ?_
  rintro e2 w2 ⟨x0, x1, v1, v2, v3, v4, n1, n2, n3, n4, y1, y2, y3, y4, F, rfl, hFr, hb2, q1, q2, q3, q4, d12, d13, d23, d4, ⟨⟨bb0, hx0⟩, ⟨cc0, hx1⟩⟩, hasg⟩
  have hs2 := hb2.size
  have hbw2 : Below w.heap.size w w2 := HB1.out.trans (hb2.mono hs1)
  have hob2 := op_below HO1.out hb2
  have HL2 := hid (HL1.out.below hb2)
  have HB2 := hid hbw2
  have HB12 := hid hb2
  have HO2 := hid hob2
  have HQ1 := hid q1
  have HQ2 := hid q2
  have HQ3 := hid q3
  have HQ4 := hid q4
  have D12 := hid d12
  have D13 := hid d13
  have D23 := hid d23
  have D4 := hid d4
  have HAS := hid hasg
  clear ol o0 o5
  obtain ⟨ol, o0, o5⟩ := op_m hob2
  obtain ⟨ax1, cx1, hv1, _, _⟩ := own_val q1
  obtain ⟨ax2, cx2, hv2, _, _⟩ := own_val q2
  obtain ⟨ax3, cx3, hv3, _, _⟩ := own_val q3
  obtain ⟨ax4, cx4, hv4, _, _⟩ := own_val q4
  subst hx0 hx1 hv1 hv2 hv3 hv4
  clear hb2 hbw2 hob2 q1 q2 q3 q4 d12 d13 d23 d4 hasg HA HO1
  go_wp2_with fail
  obtain ⟨mz, hmz⟩ : ∃ mz : Array Value, mz = #[.bool bb0, .int .i64 cc0, .slice ax1 n1 cx1, .slice ax2 n2 cx2, .slice ax3 n3 cx3, .slice ax4 n4 cx4] := ⟨_, rfl⟩
  obtain ⟨W3, hW3⟩ : ∃ W3, W3 = w2.alloc (.cells mz 86) := ⟨_, rfl⟩
  have hb3 : Below w2.heap.size w2 W3 := by rw [hW3]; exact below1 w2 _
  have hm3 : W3.heap[w2.heap.size]? = some (.cells mz 86 (0, 0)) := by rw [hW3]; exact heap_alloc_new w2 _
  rw [← hmz, ← hW3]
  have hs3 := hb3.size
  have hB3 : Below w.heap.size w W3 := HB2.out.trans (hb3.mono HB2.out.size)
  refine (keptSq_any _ g o.nm o.cm o.am G ra rn rc Q W3 hn HRN.out (HL2.out.below hb3) (HM.out.on (HW0.out.trans (hB3.mono hs0)))).mono ?_
  rintro e4 w4 ⟨rfl, hb4⟩
  have hs4 := hb4.size
  have h24 : Below w2.heap.size w2 w4 := hb3.trans (hb4.mono hs3)
  have hob4 := op_below HO2.out h24
  have hm4 : w4.heap[w2.heap.size]? = some (.cells mz 86 (0, 0)) := (hb4.block _ (Array.getElem?_eq_some_iff.1 hm3).1).trans hm3
  have HM4 := hid hm4
  have HB24 := hid h24
  have HO4 := hid hob4
  clear ol o0 o5
  obtain ⟨ol, o0, o5⟩ := op_m hob4
  rw [hmz] at hm4
  obtain ⟨zl, z0, z1, z2, z3, z4, z5, zf⟩ := six_at hm4
  have HMZ := hid hmz
  clear hb3 hm3 hB3 hb4 h24 hob4 hm4 hW3
  have HAW : Hid (∀ W', Below w4.heap.size w4 W' → Calls Tryz.prog 42 #[.slice o.am o.nm o.cm, .agg #[.bool bb0, .int .i64 cc0, .slice ax1 n1 cx1, .slice ax2 n2 cx2, .slice ax3 n3 cx3, .slice ax4 n4 cx4], .int .i64 F] W' fun e5 w5 => e5 = .returned (.bool true) ∧ w5.cell? ⟨w.heap.size, 5, none⟩ = some (.slice o.am o.nm o.cm) ∧ w5.cell? ⟨w2.heap.size, 0, none⟩ = some (.bool bb0) ∧ w5.cell? ⟨w2.heap.size, 1, none⟩ = some (.int .i64 cc0) ∧ w5.cell? ⟨w2.heap.size, 2, none⟩ = some (.slice ax1 n1 cx1) ∧ w5.cell? ⟨w2.heap.size, 3, none⟩ = some (.slice ax2 n2 cx2) ∧ w5.cell? ⟨w2.heap.size, 4, none⟩ = some (.slice ax3 n3 cx3) ∧ w5.cell? ⟨w2.heap.size, 5, none⟩ = some (.slice ax4 n4 cx4) ∧ Below w4.heap.size w4 w5) := by
    intro W' hW'
    refine (HAS.out W' (HB24.out.trans (hW'.mono HB24.out.size))).mono ?_
    rintro e5 w5 ⟨rfl, hb5⟩
    have hb45 : Below w4.heap.size w4 w5 := hW'.trans (hb5.mono hW'.size)
    exact ⟨rfl, (hb45.cell (by exact ol)).trans o5, (hb45.cell (by exact zl)).trans z0, (hb45.cell (by exact zl)).trans z1, (hb45.cell (by exact zl)).trans z2, (hb45.cell (by exact zl)).trans z3, (hb45.cell (by exact zl)).trans z4, (hb45.cell (by exact zl)).trans z5, hb45⟩
  clear HAS
  go_wp2_with fail
  go_region_held3 (fun w' => w'.cell? ⟨w.heap.size, 5, none⟩ = some (.slice o.am o.nm o.cm) ∧ w'.cell? ⟨w2.heap.size, 0, none⟩ = some (.bool bb0) ∧ w'.cell? ⟨w2.heap.size, 1, none⟩ = some (.int .i64 cc0) ∧ w'.cell? ⟨w2.heap.size, 2, none⟩ = some (.slice ax1 n1 cx1) ∧ w'.cell? ⟨w2.heap.size, 3, none⟩ = some (.slice ax2 n2 cx2) ∧ w'.cell? ⟨w2.heap.size, 4, none⟩ = some (.slice ax3 n3 cx3) ∧ w'.cell? ⟨w2.heap.size, 5, none⟩ = some (.slice ax4 n4 cx4)) (go_keep) (first
    | (go_at_call 19; refine (num_any _ _ hFr).mono ?_; rintro e5 w5 ⟨rfl, rfl⟩)
    | (go_at_call 42; refine (HAW.out _ (by first | exact Below.refl _ _ | exact (Below.refl _ _).drew)).mono ?_; rintro e5 w5 ⟨rfl, p5, p0, p1, p2, p3, p4, p6, hb45⟩))
  have hs45 := hb45.size
  have hb25 : Below w2.heap.size w2 w5 := HB24.out.trans (hb45.mono HB24.out.size)
  have hbw5 : Below w.heap.size w w5 := HB2.out.trans (hb25.mono HB2.out.size)
  have hob5 := op_below HO4.out hb45
  have HB5 := hid hbw5
  have HB25 := hid hb25
  have HO5 := hid hob5
  have hl5 := (Array.getElem?_eq_some_iff.1 hob5).1
  have hm5 : w2.heap.size < w5.heap.size := Nat.lt_of_lt_of_le zl hs45
  have hsb2 := HB2.out.size
  have HH5 := hid (HH.out.below hbw5 (Nat.le_refl _))
  have HC := hid (match_walk w0.heap.size w.heap.size hb w1.heap.size (.bool bb0) (.int .i64 cc0) _ _ _ _ n1 n2 n3 n4 y1 y2 y3 y4 vi vr vs vd vn I R S D N w5 HH5.out (by omega) (by omega) (by omega) (by omega) h7 (fun q hq => by have := HVI.out q hq; omega) (by omega) (own_below HQ1.out hb25) (own_below HQ2.out hb25) (own_below HQ3.out hb25) (own_below HQ4.out hb25) D12.out D13.out D23.out D4.out)
  clear hb45 hb25 hbw5 hob5 HAW HQ1 HQ2 HQ3 HQ4 D12 D13 D23 D4 o0 o5 z0 z1 z2 z3 z4 z5 zf zl ol HM4 HO4
  go_wp2_with fail
  refine HC.out.mono ?_
  rintro e6 w6 ⟨vi6, L6, rfl, hh6, hlen6, hsep6, hk6, hb6⟩
  have hs6 := hb6.size
  have hw1 : w.heap.size < w1.heap.size := by have := HB12.out; exact hlo1
  have hob6 : w6.heap[w.heap.size]? = some (.cells o.vals 39 (0, 0)) := (hk6 w.heap.size hw1 (by omega) (fun e => by have := HVI.out _ e; omega)).trans HO5.out
  have HL6 : Hid (LentSq w6 (w.heap.size + 1) g o.nm G rn Q) := HL1.out.keep fun q h1 h2 => by
    rw [hk6 q h2 (by omega) (fun e => by have := HVI.out _ e; omega), (HB12.out.trans (HB25.out.mono HB12.out.size)).block q h2]
  have HI6 : Hid (HoldInvB w6 w0.heap.size hb (a + 4) m) := ⟨vi6, vr, vs, vd, vn, I ++ L6, R, S, D, N, hh6, h2, by simp; omega, h4, h5, h6, hsep6⟩
  have HB6 : Hid (Below w0.heap.size w w6) := (HB5.out.mono hs0).trans hb6
  have HO6 := hid hob6
  obtain ⟨ol, o0, o5⟩ := op_m hob6
  clear hh6 hlen6 hsep6 hk6 hb6 hob6 HC HL2 HL1
  go_wp2_with fail
  refine (keptSq_any _ g o.nm o.cm o.am G ra rn rc Q w6 hn HRN.out HL6.out (HM.out.on (HW0.out.trans HB6.out))).mono ?_
  rintro e7 w7 ⟨rfl, hb7⟩
  have HI7 := hid (HI6.out.below hb7)
  have HB7 : Hid (Below w0.heap.size w w7) := HB6.out.trans (hb7.mono (by have := HB6.out.size; omega))
  clear hb7 HI6 HB6 HL6
  go_wp2_with fail
  go_ret
  exact ⟨rfl, HI7.out, HB7.out⟩

set_option maxRecDepth 100000 in
set_option maxHeartbeats 1000000 in
theorem plays_assign (w0 : World) (hb : Nat) (o : OpV) (a m : Nat) (ra : Nat → Option Addr) (rn rc : Nat → Nat) (Q : Nat → Nat → Int) (ho : o.k = 6) (hM : LRowsZ w0 o.am o.nm ra rn rc Q) (hn : o.nm * 24 ≤ 140737488355328) (hrn : ∀ i, i < o.nm → rn i * 8 ≤ 140737488355328) (ha : a ≤ 9100000000000) : PlaysBy w0 hb o a m (a + 4) m := by
  intro w h hw0
  have hbb : w0.heap.size ≤ w.heap.size := hw0.size
  have HC := hid (inst_assign w0 hb a m o ra rn rc Q (w.alloc (.cells o.vals 39)) ho hM hn hrn (h.below (below1 w _)) ha (hw0.trans ((below1 w _).mono hbb)))
  unfold OpV.vals at HC ⊢
  rw [ho] at HC ⊢
  clear hM hrn h
  go_enter Tryz.func11, Tryz.ntmps11
  go_wp2_with fail
  refine HC.out.mono ?_
  rintro e2 w2 ⟨rfl, hi2, hb2⟩
  have HI2 := hid hi2
  have HB2 : Hid (Below w0.heap.size w w2) := ((below1 w _).mono hbb).trans hb2
  clear hi2 hb2 HC
  go_wp2
  go_ret
  exact ⟨rfl, HI2.out, HB2.out⟩

set_option maxRecDepth 100000 in
set_option maxHeartbeats 1000000 in
theorem assigns_walk (ao : Option Addr) (n c : Nat) (ops : Nat → OpV) (w : World) (hn : n ≤ 703687441776) (hs : ScriptAt w ao n ops) (hos : ∀ i, i < n → ∃ ra rn rc Q, LRowsZ w (ops i).am (ops i).nm ra rn rc Q ∧ (ops i).nm * 24 ≤ 140737488355328 ∧ ∀ j, j < (ops i).nm → rn j * 8 ≤ 140737488355328) :
    Calls Tryz.prog 8 #[.slice ao n c] w fun e w' => e = .returned (.bool true) ∧ Below w.heap.size w w' := by
  have HC := hid (upto_walk_by 6 6 ao n c ops (fun k => 4 * k) (fun _ => 0) w hn hs (fun k _ => ⟨by omega, Nat.le_refl _⟩) (fun i hi h1 h2 => by
    obtain ⟨ra, rn, rc, Q, k1, k2, k3⟩ := hos i hi
    have := plays_assign w w.heap.size (ops i) (4 * i) 0 ra rn rc Q (by omega) k1 k2 k3 (by omega)
    rw [show 4 * (i + 1) = 4 * i + 4 by omega]; exact this))
  clear hs hos
  go_enter Tryz.func8, Tryz.ntmps8
  go_wp2_with fail
  refine HC.out.mono ?_
  rintro e2 w2 ⟨rfl, hb2⟩
  go_wp2
  go_ret
  exact ⟨rfl, hb2⟩
end Go.Proofs.YtebinaopncclgaaGreatDoor
