/- Walks: any instance is printed, or its fault told. -/
import Derived.Test.YtebinaopncclgaaGreatDoorPrnI
namespace Go.Proofs.YtebinaopncclgaaGreatDoor
open Go.RowKit Go.IntWalk

def printS (X0 X1 X2 X3 X4 : Int) (S T : Nat → Nat → Int) (n m : Nat) : List UInt8 := if faultS X0 X1 X2 X3 X4 S T n m = 0 then textZ X0 X1 X2 X3 X4 S T n m else []
set_option maxHeartbeats 1000000 in
theorem iprint_any (Z : Nat) (X0 X1 X2 X3 X4 : Int) (S T : Nat → Nat → Int) (aos aor : Option Addr) (n m caps capr : Nat) (w : World) (hT : Tab Z w) (hZ : Z ≤ w.heap.size) (hn : n ≤ 9223372036854775807) (hm : m ≤ 9223372036854775807) (hs : Lies w aos n 5 S) (hr : Lies w aor m 3 T) :
    Calls Tryz.prog 64 #[.agg #[.int .i64 X0, .int .i64 X1, .int .i64 X2, .int .i64 X3, .int .i64 X4, .slice aos n caps, .slice aor m capr]] w fun e w' => e = .returned (.tuple #[.string ⟨(printS X0 X1 X2 X3 X4 S T n m).toArray⟩, .int .i64 (faultS X0 X1 X2 X3 X4 S T n m)]) ∧ Below w.heap.size w w' := by
  unfold printS
  by_cases h0 : faultS X0 X1 X2 X3 X4 S T n m = 0
  · rw [if_pos h0, h0]; exact iprint_good Z X0 X1 X2 X3 X4 S T aos aor n m caps capr w hT hZ h0 hs hr
  · rw [if_neg h0]
    have hfa := fault_any X0 X1 X2 X3 X4 S T aos aor n m caps capr (w.alloc (.cells #[.int .i64 X0, .int .i64 X1, .int .i64 X2, .int .i64 X3, .int .i64 X4, .slice aos n caps, .slice aor m capr] 36)) hn hm (hs.below (below1 _ _)) (hr.below (below1 _ _))
    generalize faultS X0 X1 X2 X3 X4 S T n m = er at *
    have HFA := hid hfa
    have hne : (er != 0) = true := by simp [h0]
    clear hfa hs hr h0
    go_enter Tryz.func64, Tryz.ntmps64
    go_wp2_with fail
    refine HFA.out.mono ?_
    rintro e1 w1 ⟨rfl, hb1⟩
    have HB : Hid (Below w.heap.size w w1) := (below1 w _).trans (hb1.mono (by simp))
    clear hb1 HFA
    go_wp2
    go_ret2
    exact ⟨rfl, HB.out⟩
set_option maxHeartbeats 1000000 in
theorem rprint_any (X0 X1 X2 X3 X4 : Int) (S T : Nat → Nat → Int) (aos aor : Option Addr) (n m caps capr : Nat) (w : World) (hX : -9223372036854775808 ≤ X3 ∧ X3 ≤ 9223372036854775807) (hn : n ≤ 9223372036854775807) (hm : m ≤ 9223372036854775807) (hs : Lies w aos n 5 S) (hr : Lies w aor m 3 T) :
    Calls Tryz.prog 28 #[.agg #[.int .i64 X0, .int .i64 X1, .int .i64 X2, .int .i64 X3, .int .i64 X4, .slice aos n caps, .slice aor m capr]] w fun e w' => e = .returned (.tuple #[.string ⟨(printS X0 X1 X2 X3 X4 S T n m).toArray⟩, .int .i64 (faultS X0 X1 X2 X3 X4 S T n m)]) ∧ Below w.heap.size w w' := by
  unfold printS
  by_cases h0 : faultS X0 X1 X2 X3 X4 S T n m = 0
  · rw [if_pos h0, h0]; exact rprint_good X0 X1 X2 X3 X4 S T aos aor n m caps capr w hX h0 hs hr
  · rw [if_neg h0]
    have hfa := whole_any X0 X1 X2 X3 X4 S T aos aor n m caps capr (w.alloc (.cells #[.int .i64 X0, .int .i64 X1, .int .i64 X2, .int .i64 X3, .int .i64 X4, .slice aos n caps, .slice aor m capr] 36)) hX hn hm (hs.below (below1 _ _)) (hr.below (below1 _ _))
    generalize faultS X0 X1 X2 X3 X4 S T n m = er at *
    have HFA := hid hfa
    have hne : (er != 0) = true := by simp [h0]
    clear hfa hs hr h0
    go_enter Tryz.func28, Tryz.ntmps28
    go_wp2_with fail
    refine HFA.out.mono ?_
    rintro e1 w1 ⟨rfl, hb1⟩
    have HB : Hid (Below w.heap.size w w1) := (below1 w _).trans (hb1.mono (by simp))
    clear hb1 HFA
    go_wp2
    go_ret2
    exact ⟨rfl, HB.out⟩
set_option maxHeartbeats 1000000 in
theorem dprint_any (Z : Nat) (X0 X1 X2 X3 X4 : Int) (S T : Nat → Nat → Int) (aos aor : Option Addr) (n m caps capr : Nat) (w : World) (hT : Tab Z w) (hZ : Z ≤ w.heap.size) (hn : n ≤ 9223372036854775807) (hm : m ≤ 9223372036854775807) (hs : Lies w aos n 5 S) (hr : Lies w aor m 3 T) :
    Calls Tryz.prog 26 #[.agg #[.int .i64 X0, .int .i64 X1, .int .i64 X2, .int .i64 X3, .int .i64 X4, .slice aos n caps, .slice aor m capr]] w fun e w' => e = .returned (.tuple #[.string ⟨(printS X0 X1 X2 X3 X4 S T n m).toArray⟩, .int .i64 (faultS X0 X1 X2 X3 X4 S T n m)]) ∧ Below w.heap.size w w' := by
  have HP : Hid (∀ W, Below w.heap.size w W → Calls Tryz.prog 64 #[.agg #[.int .i64 X0, .int .i64 X1, .int .i64 X2, .int .i64 X3, .int .i64 X4, .slice aos n caps, .slice aor m capr]] W fun e w' => e = .returned (.tuple #[.string ⟨(printS X0 X1 X2 X3 X4 S T n m).toArray⟩, .int .i64 (faultS X0 X1 X2 X3 X4 S T n m)]) ∧ Below W.heap.size W w') :=
    fun W hW => iprint_any Z X0 X1 X2 X3 X4 S T aos aor n m caps capr W (Tab.on hT hW hZ) (Nat.le_trans hZ hW.size) hn hm (hs.below hW) (hr.below hW)
  clear hs hr hT
  generalize printS X0 X1 X2 X3 X4 S T n m = ps at *
  generalize faultS X0 X1 X2 X3 X4 S T n m = er at *
  go_enter Tryz.func26, Tryz.ntmps26
  go_wp2_with fail
  refine (HP.out _ (by first | exact below1 w _ | exact Below.refl _ _)).mono ?_
  rintro e1 w1 ⟨rfl, hb1⟩
  have HB : Hid (Below w.heap.size w w1) := by first | exact (below1 w _).trans (hb1.mono (by simp)) | exact hb1
  clear hb1 HP
  go_wp2
  go_ret2
  exact ⟨rfl, HB.out⟩
end Go.Proofs.YtebinaopncclgaaGreatDoor
