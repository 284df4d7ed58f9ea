/- Walks: the law of loose texts. -/
import Derived.Test.YtebinaopncclgaaDoorPrnt
import Derived.Test.YtebinaopncclgaaDoorSame
import Derived.Test.YtebinaopncclgaaDoorStyP
namespace Go.Proofs.YtebinaopncclgaaDoor
open Go.RowKit Go.IntWalk

theorem came_below {w W : World} {ao : Option Addr} {n size : Nat} {S : Nat → Nat → Int} (h : Came w ao n size S) (hb : Below w.heap.size w W) : Came W ao n size S := fun hn => by
  obtain ⟨b, o, e, hl, hc⟩ := h hn
  have := hb.size
  exact ⟨b, o, e, by omega, fun i j hi hj => ⟨by rw [hb.cell (p := ⟨b, o + i * size + j, none⟩) hl]; exact (hc i j hi hj).1, (hc i j hi hj).2⟩⟩
def yCells (r : Rd) (vs vr : Value) : Array Value := #[.int .i64 r.vans, .int .i64 r.load, .int .i64 r.close, .int .i64 r.nodes, .int .i64 r.home, vs, vr]
/- the instance in its variable, its lists -/
structure YIs (w : World) (yb B : Nat) (r : Rd) (vs vr : Value) : Prop where
  heap : w.heap[yb]? = some (.cells (yCells r vs vr) 25 (0, 0))
  stops : w.ownsRow B 37 5 vs r.stops.length (ints r.stops.flatten)
  roads : w.ownsRow B 39 3 vr r.roads.length (ints r.roads.flatten)
theorem y_cells {w : World} {yb B : Nat} {r : Rd} {vs vr : Value} (h : YIs w yb B r vs vr) :
    w.cell? ⟨yb, 0, none⟩ = some (.int .i64 r.vans) ∧ w.cell? ⟨yb, 1, none⟩ = some (.int .i64 r.load) ∧ w.cell? ⟨yb, 2, none⟩ = some (.int .i64 r.close) ∧ w.cell? ⟨yb, 3, none⟩ = some (.int .i64 r.nodes) ∧ w.cell? ⟨yb, 4, none⟩ = some (.int .i64 r.home) ∧
    w.cell? ⟨yb, 5, none⟩ = some vs ∧ w.cell? ⟨yb, 6, none⟩ = some vr ∧ w.frozen? ⟨yb, 6, none⟩ = false ∧ yb < w.heap.size := by
  refine ⟨?_, ?_, ?_, ?_, ?_, ?_, ?_, frozen_of_row w yb 6 _ _ h.heap, (Array.getElem?_eq_some_iff.1 h.heap).1⟩ <;> (rw [cell_of_row w yb _ _ _ _ h.heap]; rfl)
theorem YIs.below {w w' : World} {yb B : Nat} {r : Rd} {vs vr : Value} (h : YIs w yb B r vs vr) (hb : Below w.heap.size w w') : YIs w' yb B r vs vr :=
  ⟨by rw [hb.block yb (Array.getElem?_eq_some_iff.1 h.heap).1]; exact h.heap, own_below h.stops hb, own_below h.roads hb⟩
theorem y_new {w : World} {B : Nat} {r : Rd} {vs vr : Value} (hs : w.ownsRow B 37 5 vs r.stops.length (ints r.stops.flatten)) (hr : w.ownsRow B 39 3 vr r.roads.length (ints r.roads.flatten)) :
    YIs (w.alloc (.cells (yCells r vs vr) 25)) w.heap.size B r vs vr := ⟨heap_alloc_new w _, hs.alloc _, hr.alloc _⟩
theorem sty_nought : sty 0 = Sty0 := by
  have h : bits BinOp.and IntKind.i64 0 1 = 0 := by decide
  simp [sty, Sty0, h]

set_option maxHeartbeats 1000000 in
theorem dparse_ok (st : Int) {r : Rd} (h : RdOk r) (w : World) :
    Calls Tryd.prog 6 #[.string ⟨(textG (sty st) r).toArray⟩] w fun e w' => ∃ vs vr, e = .returned (.tuple #[inst r vs vr, .int .i64 0, .int .i64 0]) ∧ w'.ownsRow w.heap.size 37 5 vs r.stops.length (ints r.stops.flatten) ∧ w'.ownsRow w.heap.size 39 3 vr r.roads.length (ints r.roads.flatten) ∧ Below w.heap.size w w' := by
  have hl := textG_length (sty st) h
  have hp := parse_any ⟨(textG (sty st) r).toArray⟩ (w.alloc (.cells zero7 25)) (by show (textG (sty st) r).toArray.size ≤ _; unfold maxLen; simp; omega)
  rw [show parseS (⟨(textG (sty st) r).toArray⟩ : ByteArray).data.toList = (r, 0, 0) from by show parseS (textG (sty st) r).toArray.toList = _; simpa using parse_textG (sty st) h] at hp
  have HP := hide hp
  clear hp
  go_enter Tryd.func6, Tryd.ntmps6
  go_wp2_with fail
  refine HP.out.mono ?_
  rintro e1 w1 ⟨vs, vr, rfl, hs, hr, hb⟩
  have hbox : w1.heap[w.heap.size]? = some (.cells zero7 25 (0, 0)) := by rw [hb.block _ (by simp)]; exact heap_alloc_new w _
  obtain ⟨b0, b1, b2, b3, b4, b5, b6, hfz⟩ := box7 hbox
  have HW1 : Hid (Below w.heap.size w w1) := (below1 w _).trans (hb.mono (by simp))
  obtain ⟨aos, caps, rfl, _, _⟩ := own_val hs
  obtain ⟨aor, capr, rfl, _, _⟩ := own_val hr
  have HS := hide (own_base hs (show w.heap.size ≤ _ by simp))
  have HR := hide (own_base hr (show w.heap.size ≤ _ by simp))
  have HBX := hide hbox
  clear hs hr hb HP hbox
  unfold inst
  go_wp2
  refine bodyPost_ret (v := .tuple #[inst r (.slice aos r.stops.length caps) (.slice aor r.roads.length capr), .int .i64 0, .int .i64 0]) (by simp [results, Tryd.results6, go_sem, inst, b0, b1, b2, b3, b4, b5, b6]) rfl ?_
  exact ⟨_, _, rfl, own_put7 HBX.out HS.out (by decide), own_put7 HBX.out HR.out (by decide), HW1.out.trans (below_put7 _ _ _ (Nat.le_refl _) _ _ _ _ _ _ _)⟩

set_option maxHeartbeats 1000000 in
theorem dprint_ok (Z B B' : Nat) (r : Rd) (vs vr : Value) (w : World) (hT : Tab Z w) (hZ : Z ≤ w.heap.size) (hok : RdOk r) (hs : w.ownsRow B 37 5 vs r.stops.length (ints r.stops.flatten)) (hr : w.ownsRow B' 39 3 vr r.roads.length (ints r.roads.flatten)) :
    Calls Tryd.prog 8 #[inst r vs vr] w fun e w' => e = .returned (.tuple #[.string ⟨(textL r).toArray⟩, .int .i64 0]) ∧ Below w.heap.size w w' := by
  have hp := fun W (hW : Below w.heap.size w W) => iprint_ok Z B B' r vs vr W (Tab.on hT hW hZ) (Nat.le_trans hZ hW.size) hok (own_below hs hW) (own_below hr hW)
  have HP := hide hp
  clear hp hT hs hr
  unfold inst
  unfold inst at HP
  go_enter Tryd.func8, Tryd.ntmps8
  go_wp2_with fail
  refine (HP.out _ (below1 w _)).mono ?_
  rintro e1 w1 ⟨rfl, hb⟩
  have HW1 : Hid (Below w.heap.size w w1) := (below1 w _).trans (hb.mono (by simp))
  clear hb HP
  go_wp2
  go_ret2
  exact ⟨rfl, HW1.out⟩

set_option maxRecDepth 100000 in
set_option maxHeartbeats 4000000 in
theorem loose_walk (X : Nat → Int) (S T : Nat → Nat → Int) (aS aR : Option Addr) (n m cn cm : Nat) (st : Int) (w : World) (hTb : Tab w.heap.size w) (hX : ∀ i, i < 5 → -9223372036854775808 ≤ X i ∧ X i ≤ 9223372036854775807) (hn : n ≤ 9223372036854775807) (hm : m ≤ 9223372036854775807)
    (hS : Came w aS n 5 S) (hT : Came w aR m 3 T) :
    Calls Tryd.prog 3 #[.agg #[.int .i64 (X 0), .int .i64 (X 1), .int .i64 (X 2), .int .i64 (X 3), .int .i64 (X 4), .slice aS n cn, .slice aR m cm], .int .i64 st] w fun e w' => e = .returned (.bool true) ∧ Below w.heap.size w w' := by
  have hcB := fun W (hW : Below w.heap.size w W) => Bent_any X S T aS aR n m cn cm W hX hn hm (came_below hS hW) (came_below hT hW)
  have HCB := hide hcB
  have HOK := hide (bentR_ok X S T n m)
  have HTB := hide hTb
  clear hcB hX hS hT hTb
  generalize bentR X S T n m = R at *
  go_enter Tryd.func3, Tryd.ntmps3
  go_wp2_with fail
  refine (HCB.out _ (below1 w _)).mono ?_
  rintro e1 w1 ⟨vs, vr, rfl, hos, hor, hb1⟩
  obtain ⟨aos, caps, rfl, _, _⟩ := own_val hos
  obtain ⟨aor, capr, rfl, _, _⟩ := own_val hor
  have HB1 : Hid (Below w.heap.size w w1) := (below1 w _).trans (hb1.mono (by simp))
  have HOS := hide (own_base hos (show w.heap.size ≤ _ by simp))
  have HOR := hide (own_base hor (show w.heap.size ≤ _ by simp))
  have hbz := HB1.out.size
  clear hos hor hb1 HCB
  have HY : Hid (YIs (w1.alloc (.cells (yCells R (.slice aos R.stops.length caps) (.slice aor R.roads.length capr)) 25)) w1.heap.size w.heap.size R (.slice aos R.stops.length caps) (.slice aor R.roads.length capr)) := y_new HOS.out HOR.out
  have HWY : Hid (Below w.heap.size w (w1.alloc (.cells (yCells R (.slice aos R.stops.length caps) (.slice aor R.roads.length capr)) 25))) := HB1.out.alloc hbz _
  clear HOS HOR HB1
  unfold inst
  go_wp2_with fail
  refine (textG_any w.heap.size w.heap.size st R (.slice aos R.stops.length caps) (.slice aor R.roads.length capr) _ HOK.out.nice HY.out.stops HY.out.roads).mono ?_
  rintro e3 w3 ⟨rfl, hb3⟩
  have HW3 : Hid (Below w.heap.size w w3) := HWY.out.trans (hb3.mono HWY.out.size)
  have HY3 := hide (HY.out.below hb3)
  clear hb3 HY HWY
  go_wp2_with fail
  refine (dparse_ok st HOK.out _).mono ?_
  rintro e4 w4 ⟨zs, zr, rfl, ks, kr, hb4⟩
  have HW4 : Hid (Below w.heap.size w w4) := HW3.out.trans (hb4.mono HW3.out.size)
  have HY4 := hide (HY3.out.below hb4)
  obtain ⟨bos, dcs, rfl, _, _⟩ := own_val ks
  obtain ⟨bor, dcr, rfl, _, _⟩ := own_val kr
  obtain ⟨y0, y1, y2, y3, y4, y5, y6, yf, yl⟩ := y_cells HY4.out
  have HZ : Hid (YIs (w4.alloc (.cells (yCells R (.slice bos R.stops.length dcs) (.slice bor R.roads.length dcr)) 25)) w4.heap.size w3.heap.size R (.slice bos R.stops.length dcs) (.slice bor R.roads.length dcr)) := y_new ks kr
  have HY5 := hide (HY4.out.below (below1 w4 (.cells (yCells R (.slice bos R.stops.length dcs) (.slice bor R.roads.length dcr)) 25)))
  have HW5 : Hid (Below w.heap.size w (w4.alloc (.cells (yCells R (.slice bos R.stops.length dcs) (.slice bor R.roads.length dcr)) 25))) := HW4.out.alloc HW4.out.size _
  clear ks kr hb4 HY3 HW3 HY4
  unfold inst
  go_wp2_with fail
  refine (same_ok w.heap.size w.heap.size w3.heap.size w3.heap.size R (.slice aos R.stops.length caps) (.slice aor R.roads.length capr) (.slice bos R.stops.length dcs) (.slice bor R.roads.length dcr) _ HOK.out.nice HY5.out.stops HY5.out.roads HZ.out.stops HZ.out.roads).mono ?_
  rintro e6 w6 ⟨rfl, hb6⟩
  have HW6 : Hid (Below w.heap.size w w6) := HW5.out.trans (hb6.mono HW5.out.size)
  have HY6 := hide (HY5.out.below hb6)
  have HZ6 := hide (HZ.out.below hb6)
  clear hb6 HY5 HZ HW5 HW4 y0 y1 y2 y3 y4 y5 y6 yf yl
  obtain ⟨z0, z1, z2, z3, z4, z5, z6, zf, zl⟩ := y_cells HZ6.out
  go_wp2_with fail
  refine (dprint_ok w.heap.size w3.heap.size w3.heap.size R (.slice bos R.stops.length dcs) (.slice bor R.roads.length dcr) _ (by exact Tab.on HTB.out HW6.out (Nat.le_refl _)) HW6.out.size HOK.out HZ6.out.stops HZ6.out.roads).mono ?_
  rintro e7 w7 ⟨rfl, hb7⟩
  have HW7 : Hid (Below w.heap.size w w7) := HW6.out.trans (hb7.mono HW6.out.size)
  have HY7 := hide (HY6.out.below hb7)
  clear hb7 HY6 HZ6 HW6 z0 z1 z2 z3 z4 z5 z6 zf zl
  obtain ⟨y0, y1, y2, y3, y4, y5, y6, yf, yl⟩ := y_cells HY7.out
  go_wp2_with fail
  refine (textG_any w.heap.size w.heap.size 0 R (.slice aos R.stops.length caps) (.slice aor R.roads.length capr) _ HOK.out.nice HY7.out.stops HY7.out.roads).mono ?_
  rintro e8 w8 ⟨rfl, hb8⟩
  rw [sty_nought, textG_plain]
  have HW8 : Hid (Below w.heap.size w w8) := HW7.out.trans (hb8.mono HW7.out.size)
  clear hb8
  go_wp2
  go_ret
  exact ⟨rfl, HW8.out⟩
end Go.Proofs.YtebinaopncclgaaDoor
