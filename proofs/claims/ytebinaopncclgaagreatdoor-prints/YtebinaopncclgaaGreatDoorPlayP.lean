/- Walks of the statements: one step: Print. -/
import Derived.Test.YtebinaopncclgaaGreatDoorUpTo
import Derived.Test.YtebinaopncclgaaGreatDoorKeptZ
import Derived.Test.YtebinaopncclgaaGreatDoorPrnA
namespace Go.Proofs.YtebinaopncclgaaGreatDoor
open Go.RowKit Go.IntWalk

theorem fault_range (X0 X1 X2 X3 X4 : Int) (S T : Nat → Nat → Int) (n m : Nat) : -9223372036854775808 ≤ faultS X0 X1 X2 X3 X4 S T n m ∧ faultS X0 X1 X2 X3 X4 S T n m ≤ 9223372036854775807 := by
  unfold faultS; split
  · omega
  · split <;> omega
theorem op_x {o : OpV} {W : World} {b : Nat} (h : W.heap[b]? = some (.cells o.vals 39 (0, 0))) :
    W.cell? ⟨b, 6, none⟩ = some (.int .i64 o.x0) ∧ W.cell? ⟨b, 7, none⟩ = some (.int .i64 o.x1) ∧ W.cell? ⟨b, 8, none⟩ = some (.int .i64 o.x2) ∧ W.cell? ⟨b, 9, none⟩ = some (.int .i64 o.x3) ∧ W.cell? ⟨b, 10, none⟩ = some (.int .i64 o.x4) ∧ W.cell? ⟨b, 11, none⟩ = some (.slice o.aS o.nS o.cS) ∧ W.cell? ⟨b, 12, none⟩ = some (.slice o.aR o.nR o.cR) ∧ b < W.heap.size := by
  refine ⟨?_, ?_, ?_, ?_, ?_, ?_, ?_, (Array.getElem?_eq_some_iff.1 h).1⟩ <;> (rw [cell_of_row _ _ _ _ _ _ h]; rfl)

set_option maxRecDepth 100000 in
set_option maxHeartbeats 1000000 in
theorem inst_print (Z hb : Nat) (o : OpV) (S T : Nat → Nat → Int) (w : World) (ho : o.k = 2) (hT : Tab Z w) (hZ : Z ≤ w.heap.size) (hX : -9223372036854775808 ≤ o.x3 ∧ o.x3 ≤ 9223372036854775807) (hn : o.nS * 40 ≤ 140737488355328) (hm : o.nR * 24 ≤ 140737488355328) (hs : Lies w o.aS o.nS 5 S) (hr : Lies w o.aR o.nR 3 T) :
    Calls Tryz.prog 13 #[.pointer (some ⟨hb, 0, none⟩), .agg o.vals] w fun e w' => e = .returned (.bool true) ∧ Below w.heap.size w w' := by
  have HL : Hid (∀ W, Below w.heap.size w W → Calls Tryz.prog 25 #[.agg #[.int .i64 o.x0, .int .i64 o.x1, .int .i64 o.x2, .int .i64 o.x3, .int .i64 o.x4, .slice o.aS o.nS o.cS, .slice o.aR o.nR o.cR]] W fun e w' => ∃ gs gr, e = .returned (.agg #[.int .i64 o.x0, .int .i64 o.x1, .int .i64 o.x2, .int .i64 o.x3, .int .i64 o.x4, .slice (some ⟨gs, 0, none⟩) o.nS (o.nS + 1), .slice (some ⟨gr, 0, none⟩) o.nR (o.nR + 1)]) ∧ LentAt w' gs o.nS 5 S ∧ LentAt w' gr o.nR 3 T ∧ Below W.heap.size W w') :=
    fun W hW => lent_any o.x0 o.x1 o.x2 o.x3 o.x4 S T o.aS o.aR o.nS o.nR o.cS o.cR W hn hm (hs.below hW) (hr.below hW)
  have HP : Hid (∀ W gs gr, Below w.heap.size w W → LentAt W gs o.nS 5 S → LentAt W gr o.nR 3 T → Calls Tryz.prog 26 #[.agg #[.int .i64 o.x0, .int .i64 o.x1, .int .i64 o.x2, .int .i64 o.x3, .int .i64 o.x4, .slice (some ⟨gs, 0, none⟩) o.nS (o.nS + 1), .slice (some ⟨gr, 0, none⟩) o.nR (o.nR + 1)]] W fun e w' => e = .returned (.tuple #[.string ⟨(printS o.x0 o.x1 o.x2 o.x3 o.x4 S T o.nS o.nR).toArray⟩, .int .i64 (faultS o.x0 o.x1 o.x2 o.x3 o.x4 S T o.nS o.nR)]) ∧ Below W.heap.size W w') :=
    fun W gs gr hW h1 h2 => dprint_any Z o.x0 o.x1 o.x2 o.x3 o.x4 S T _ _ o.nS o.nR _ _ W (Tab.on hT hW hZ) (Nat.le_trans hZ hW.size) (by omega) (by omega) h1.lies h2.lies
  have HK : Hid (∀ W gs gr, Below w.heap.size w W → LentAt W gs o.nS 5 S → LentAt W gr o.nR 3 T → Calls Tryz.prog 27 #[.agg #[.int .i64 o.x0, .int .i64 o.x1, .int .i64 o.x2, .int .i64 o.x3, .int .i64 o.x4, .slice (some ⟨gs, 0, none⟩) o.nS (o.nS + 1), .slice (some ⟨gr, 0, none⟩) o.nR (o.nR + 1)], .agg #[.int .i64 o.x0, .int .i64 o.x1, .int .i64 o.x2, .int .i64 o.x3, .int .i64 o.x4, .slice o.aS o.nS o.cS, .slice o.aR o.nR o.cR]] W fun e w' => e = .returned (.bool true) ∧ Below W.heap.size W w') :=
    fun W gs gr hW h1 h2 => kept_any o.x0 o.x1 o.x2 o.x3 o.x4 S T gs gr o.aS o.aR o.nS o.nR o.cS o.cR W (by omega) (by omega) h1 h2 (hs.below hW) (hr.below hW)
  have HQ : Hid (∀ W, Below w.heap.size w W → Calls Tryz.prog 28 #[.agg #[.int .i64 o.x0, .int .i64 o.x1, .int .i64 o.x2, .int .i64 o.x3, .int .i64 o.x4, .slice o.aS o.nS o.cS, .slice o.aR o.nR o.cR]] W fun e w' => e = .returned (.tuple #[.string ⟨(printS o.x0 o.x1 o.x2 o.x3 o.x4 S T o.nS o.nR).toArray⟩, .int .i64 (faultS o.x0 o.x1 o.x2 o.x3 o.x4 S T o.nS o.nR)]) ∧ Below W.heap.size W w') :=
    fun W hW => rprint_any o.x0 o.x1 o.x2 o.x3 o.x4 S T o.aS o.aR o.nS o.nR o.cS o.cR W hX (by omega) (by omega) (hs.below hW) (hr.below hW)
  have hxr := fault_range o.x0 o.x1 o.x2 o.x3 o.x4 S T o.nS o.nR
  have HOB := hid (op_box o w)
  generalize printS o.x0 o.x1 o.x2 o.x3 o.x4 S T o.nS o.nR = ps at *
  generalize faultS o.x0 o.x1 o.x2 o.x3 o.x4 S T o.nS o.nR = er at *
  clear hs hr hT hX hn hm
  unfold OpV.vals
  rw [ho]
  go_enter Tryz.func13, Tryz.ntmps13
  go_wp2_with fail
  rw [← ho]
  refine (HL.out _ (below1 w _)).mono ?_
  rintro e1 w1 ⟨gs, gr, rfl, hl1, hr1, hb1⟩
  have hob1 := op_below HOB.out hb1
  have HB1 : Hid (Below w.heap.size w w1) := (below1 w _).trans (hb1.mono (by simp))
  have HL1 := hid hl1
  have HR1 := hid hr1
  have HOB1 := hid hob1
  clear hl1 hr1 hb1 hob1 HL HOB
  go_wp2_with fail
  refine (HP.out _ gs gr (HB1.out.trans ((below1 w1 _).mono HB1.out.size)) (HL1.out.below (below1 w1 _)) (HR1.out.below (below1 w1 _))).mono ?_
  rintro e2 w2 ⟨rfl, hb2⟩
  have hb12 : Below w1.heap.size w1 w2 := (below1 w1 _).trans (hb2.mono (by simp))
  have hx2 : w2.heap[w1.heap.size]? = some (.cells #[.int .i64 o.x0, .int .i64 o.x1, .int .i64 o.x2, .int .i64 o.x3, .int .i64 o.x4, .slice (some ⟨gs, 0, none⟩) o.nS (o.nS + 1), .slice (some ⟨gr, 0, none⟩) o.nR (o.nR + 1)] 36 (0, 0)) := by
    rw [hb2.block _ (by simp)]; exact heap_alloc_new w1 _
  obtain ⟨q0, q1, q2, q3, q4, q5, q6, _⟩ := seven hx2
  have hxl : w1.heap.size < w2.heap.size := (Array.getElem?_eq_some_iff.1 hx2).1
  have hob2 := op_below HOB1.out hb12
  obtain ⟨o6, o7, o8, o9, o10, o11, o12, hol⟩ := op_x hob2
  have HB2 : Hid (Below w.heap.size w w2) := HB1.out.trans (hb12.mono HB1.out.size)
  have HOB2 := hid hob2
  have HL2 := hid (HL1.out.below hb12)
  have HR2 := hid (HR1.out.below hb12)
  clear hx2 hb2 hb12 hob2 HP HL1 HR1 HOB1
  go_wp2_with fail
  refine (HK.out _ gs gr HB2.out HL2.out HR2.out).mono ?_
  rintro e3 w3 ⟨rfl, hb3⟩
  have hob3 := op_below HOB2.out hb3
  have HB3 : Hid (Below w.heap.size w w3) := HB2.out.trans (hb3.mono HB2.out.size)
  clear q0 q1 q2 q3 q4 q5 q6 o6 o7 o8 o9 o10 o11 o12 hol hxl
  obtain ⟨o6, o7, o8, o9, o10, o11, o12, hol⟩ := op_x hob3
  clear hb3 hob3 HK HL2 HR2 HOB2
  go_wp2_with fail
  refine (HQ.out _ HB3.out).mono ?_
  rintro e4 w4 ⟨rfl, hb4⟩
  have HB4 : Hid (Below w.heap.size w w4) := HB3.out.trans (hb4.mono HB3.out.size)
  clear hb4 HQ o6 o7 o8 o9 o10 o11 o12
  go_wp2_with (go_at_call 19; refine (num_any _ _ hxr).mono ?_; rintro e5 w5 ⟨rfl, rfl⟩)
  go_ret
  exact ⟨ret_bool (by simp), HB4.out⟩

set_option maxRecDepth 100000 in
set_option maxHeartbeats 1000000 in
theorem plays_print (w0 : World) (Z hb : Nat) (o : OpV) (S T : Nat → Nat → Int) (ho : o.k = 2) (hT : Tab Z w0) (hZ : Z ≤ w0.heap.size) (hX : -9223372036854775808 ≤ o.x3 ∧ o.x3 ≤ 9223372036854775807) (hn : o.nS * 40 ≤ 140737488355328) (hm : o.nR * 24 ≤ 140737488355328) (hs : Lies w0 o.aS o.nS 5 S) (hr : Lies w0 o.aR o.nR 3 T) : Plays w0 hb o := by
  intro w m h hmm hw0
  have hb1 : Below w0.heap.size w0 (w.alloc (.cells o.vals 39)) := hw0.trans ((below1 w _).mono hw0.size)
  have HC := hid (inst_print Z hb o S T (w.alloc (.cells o.vals 39)) ho (Tab.on hT hb1 hZ) (Nat.le_trans hZ hb1.size) hX hn hm (hs.below hb1) (hr.below hb1))
  have HI := hid h
  have hbb : w0.heap.size ≤ w.heap.size := hw0.size
  clear h hs hr hT hX hn hm hb1 hw0
  unfold OpV.vals at HC ⊢
  rw [ho] at HC ⊢
  go_enter Tryz.func11, Tryz.ntmps11
  go_wp2_with fail
  refine HC.out.mono ?_
  rintro e2 w2 ⟨rfl, hb2⟩
  have hb02 : Below w.heap.size w w2 := (below1 w _).trans (hb2.mono (by simp))
  have HI2 := hid ((HI.out.below hb02).more (Nat.le_succ m))
  have HB2 : Hid (Below w0.heap.size w w2) := hb02.mono hbb
  clear hb2 hb02 HC HI
  go_wp2
  go_ret
  exact ⟨rfl, HI2.out, HB2.out⟩

/- what is asked of a step that is printed -/
structure OpX (w : World) (o : OpV) (S T : Nat → Nat → Int) : Prop where
  x3 : -9223372036854775808 ≤ o.x3 ∧ o.x3 ≤ 9223372036854775807
  n : o.nS * 40 ≤ 140737488355328
  m : o.nR * 24 ≤ 140737488355328
  s : Lies w o.aS o.nS 5 S
  r : Lies w o.aR o.nR 3 T
set_option maxRecDepth 100000 in
set_option maxHeartbeats 1000000 in
theorem prints_walk (Z : Nat) (ao : Option Addr) (n c : Nat) (ops : Nat → OpV) (w : World) (hn : n ≤ 703687441776) (hs : ScriptAt w ao n ops) (hT : Tab Z w) (hZ : Z ≤ w.heap.size) (hx : ∀ i, i < n → ∃ S T, OpX w (ops i) S T) :
    Calls Tryz.prog 4 #[.slice ao n c] w fun e w' => e = .returned (.bool true) ∧ Below w.heap.size w w' := by
  have HC := hid (upto_walk 2 2 ao n c ops w hn hs (fun i hi h1 h2 => by
    obtain ⟨S, T, h⟩ := hx i hi
    exact plays_print w Z _ _ S T (by omega) hT hZ h.x3 h.n h.m h.s h.r))
  clear hs hx hT
  go_enter Tryz.func4, Tryz.ntmps4
  go_wp2_with fail
  refine HC.out.mono ?_
  rintro e2 w2 ⟨rfl, hb2⟩
  go_wp2
  go_ret
  exact ⟨rfl, hb2⟩
end Go.Proofs.YtebinaopncclgaaGreatDoor
