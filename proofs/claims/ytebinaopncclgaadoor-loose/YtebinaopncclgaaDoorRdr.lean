/- Walks: the reader's lines. -/
import Derived.Test.YtebinaopncclgaaDoorFits
import Derived.Test.YtebinaopncclgaaDoorSplit
import Derived.Test.YtebinaopncclgaaDoorNums
import Derived.Test.YtebinaopncclgaaDoorPlainC
import Derived.Test.YtebinaopncclgaaDoorFrame
import Derived.Test.YtebinaopncclgaaDoorStep
import Derived.Deep.RegionWith
namespace Go.Proofs.YtebinaopncclgaaDoor
open Go.RowKit Go.IntWalk

def rdT : List TypeId := [46, 37, 39]
def rdCells (r : Rd) (vs vr : Value) : Array Value := #[.int .i64 r.vans, .int .i64 r.load, .int .i64 r.close, .int .i64 r.nodes, .int .i64 r.home, vs, vr, .bool r.head]
def RdAt (w : World) (B rb : Nat) (r : Rd) (vs vr : Value) : Prop :=
  B ≤ rb ∧ w.heap[rb]? = some (.cells (rdCells r vs vr) 46 (0, 0)) ∧ w.ownsRow B 37 5 vs r.stops.length (ints r.stops.flatten) ∧ w.ownsRow B 39 3 vr r.roads.length (ints r.roads.flatten)
def RdLeft (w : World) (B rb : Nat) (x : Rd × Int) (e : Ending) (w' : World) : Prop :=
  ∃ vs' vr', e = .returned (.int .i64 x.2) ∧ RdAt w' B rb x.1 vs' vr' ∧ Below B w w' ∧ Keep rdT w w'

theorem rd_cells {w : World} {B rb : Nat} {r : Rd} {vs vr : Value} (h : RdAt w B rb r vs vr) :
    w.cell? ⟨rb, 0, none⟩ = some (.int .i64 r.vans) ∧ w.cell? ⟨rb, 1, none⟩ = some (.int .i64 r.load) ∧ w.cell? ⟨rb, 2, none⟩ = some (.int .i64 r.close) ∧ w.cell? ⟨rb, 3, none⟩ = some (.int .i64 r.nodes) ∧ w.cell? ⟨rb, 4, none⟩ = some (.int .i64 r.home) ∧
    w.cell? ⟨rb, 5, none⟩ = some vs ∧ w.cell? ⟨rb, 6, none⟩ = some vr ∧ w.cell? ⟨rb, 7, none⟩ = some (.bool r.head) ∧ (∀ o, w.frozen? ⟨rb, o, none⟩ = false) ∧ rb < w.heap.size := by
  have hh := h.2.1
  have hc : ∀ j, w.cell? ⟨rb, j, none⟩ = (rdCells r vs vr)[j]? := fun j => cell_of_row w rb j _ _ _ hh
  refine ⟨?_, ?_, ?_, ?_, ?_, ?_, ?_, ?_, fun o => frozen_of_row w rb o _ _ hh, (Array.getElem?_eq_some_iff.1 hh).1⟩ <;> (rw [hc]; rfl)
theorem bcell {W w1 : World} (hb : Below W.heap.size W w1) : (∀ b o, b < W.heap.size → w1.cell? ⟨b, o, none⟩ = W.cell? ⟨b, o, none⟩) ∧ (∀ b o, b < W.heap.size → w1.frozen? ⟨b, o, none⟩ = W.frozen? ⟨b, o, none⟩) :=
  ⟨fun b o h => hb.cell (p := ⟨b, o, none⟩) h, fun b o h => hb.frozen (p := ⟨b, o, none⟩) h⟩
theorem rd_same {w w' : World} {B rb : Nat} {r : Rd} {vs vr : Value} (h : RdAt w B rb r vs vr) (hb : Below w.heap.size w w') : RdAt w' B rb r vs vr :=
  ⟨h.1, by rw [hb.block rb (Array.getElem?_eq_some_iff.1 h.2.1).1]; exact h.2.1, own_below h.2.2.1 hb, own_below h.2.2.2 hb⟩
theorem rd_left_same {w w' : World} {B rb : Nat} {r : Rd} {vs vr : Value} {x : Rd × Int} {c : Int} (h : RdAt w B rb r vs vr) (hb : Below w.heap.size w w') (hx : x = (r, c)) : RdLeft w B rb x (.returned (.int .i64 c)) w' := by
  subst hx
  exact ⟨vs, vr, rfl, rd_same h hb, hb.mono (by have := h.1; have := (Array.getElem?_eq_some_iff.1 h.2.1).1; omega), Keep.of_below hb⟩

/- stores into the reader's own block -/
def Puts (B rb : Nat) (w w' : World) (cs : Array Value) : Prop := w'.heap[rb]? = some (.cells cs 46 (0, 0)) ∧ Below B w w' ∧ Keep [46] w w'
theorem Puts.refl {B rb : Nat} {w : World} {cs : Array Value} (h : w.heap[rb]? = some (.cells cs 46 (0, 0))) : Puts B rb w w cs := ⟨h, Below.refl _ _, Keep.refl _ _⟩
theorem Puts.put {B rb : Nat} {w w' : World} {cs : Array Value} (hB : B ≤ rb) (h : Puts B rb w w' cs) (o : Nat) (u : Value) : Puts B rb w (w'.setCell ⟨rb, o, none⟩ u) (cs.setIfInBounds o u) :=
  ⟨heap_setCell_same w' rb o cs _ u h.1, h.2.1.setCell hB u, h.2.2.trans (Keep.setCell h.1 (by simp) u)⟩

theorem cells8 (x0 x1 x2 x3 x4 x5 x6 x7 u0 u1 u2 u3 u4 u5 u6 u7 : Value) : ((((((((#[x0, x1, x2, x3, x4, x5, x6, x7] : Array Value).setIfInBounds 0 u0).setIfInBounds 1 u1).setIfInBounds 2 u2).setIfInBounds 3 u3).setIfInBounds 4 u4).setIfInBounds 5 u5).setIfInBounds 6 u6).setIfInBounds 7 u7 = #[u0, u1, u2, u3, u4, u5, u6, u7] := by simp
theorem rd_depot_left {w w1 : World} {B rb : Nat} {r : Rd} {vs vr : Value} {a b c d e : Int} (h : RdAt w B rb r vs vr) (hh : r.head = false) (hok : headOk a b c d e = true) (hb : Below w.heap.size w w1) :
    RdLeft w B rb (rdDepot r a b c d e) (.returned (.int .i64 0)) ((((((((w1.setCell ⟨rb, 0, none⟩ (.int .i64 a)).setCell ⟨rb, 1, none⟩ (.int .i64 b)).setCell ⟨rb, 2, none⟩ (.int .i64 c)).setCell ⟨rb, 3, none⟩ (.int .i64 d)).setCell ⟨rb, 4, none⟩ (.int .i64 e)).setCell ⟨rb, 5, none⟩ (.slice none 0 0)).setCell ⟨rb, 6, none⟩ (.slice none 0 0)).setCell ⟨rb, 7, none⟩ (.bool true)) := by
  have h1 := rd_same h hb
  have hB := h.1
  have hsz : B ≤ w.heap.size := by have := (Array.getElem?_eq_some_iff.1 h.2.1).1; omega
  have h11 := h1.2.1
  unfold rdCells at h11
  have P := ((((((((Puts.refl (B := B) h11).put hB 0 (.int .i64 a)).put hB 1 (.int .i64 b)).put hB 2 (.int .i64 c)).put hB 3 (.int .i64 d)).put hB 4 (.int .i64 e)).put hB 5 (.slice none 0 0)).put hB 6 (.slice none 0 0)).put hB 7 (.bool true)
  rw [cells8] at P
  have hx : rdDepot r a b c d e = ({ vans := a, load := b, close := c, nodes := d, home := e, stops := [], roads := [], head := true }, 0) := by simp [rdDepot, hh, hok]
  rw [hx]
  refine ⟨.slice none 0 0, .slice none 0 0, rfl, ⟨hB, P.1, World.ownsRow_nil _ _ _ _, World.ownsRow_nil _ _ _ _⟩, (hb.mono hsz).trans P.2.1, (Keep.of_below hb).trans ?_⟩
  intro k cur t z hk ht
  exact P.2.2 k cur t z hk (by simp only [rdT, List.mem_cons, not_or] at ht; simp [ht.1])

set_option maxHeartbeats 1000000 in
theorem depot_in (B rb g cap : Nat) (r : Rd) (vs vr : Value) (a b c d e : Int) (w : World) (hr : RdAt w B rb r vs vr) (hh : r.head = false) (hok : headOk a b c d e = true)
    (hg : g < w.heap.size) (h0 : w.cell? ⟨g, 0, none⟩ = some (.int .i64 a)) (h1 : w.cell? ⟨g, 1, none⟩ = some (.int .i64 b)) (h2 : w.cell? ⟨g, 2, none⟩ = some (.int .i64 c)) (h3 : w.cell? ⟨g, 3, none⟩ = some (.int .i64 d)) (h4 : w.cell? ⟨g, 4, none⟩ = some (.int .i64 e)) :
    Calls Tryd.prog 20 #[.pointer (some ⟨rb, 0, none⟩), .slice (some ⟨g, 0, none⟩) 5 cap] w (RdLeft w B rb (rdDepot r a b c d e)) := by
  obtain ⟨c0, c1, c2, c3, c4, c5, c6, c7, hfz, hrl⟩ := rd_cells hr
  rw [hh] at c7
  go_enter Tryd.func20, Tryd.ntmps20
  go_wp2
  go_region
  go_wp2_with fail
  refine (headFits_any _ _ _ _ _ _ _ _).mono ?_
  rintro e1 w1 ⟨rfl, hb1⟩
  rw [hok]
  obtain ⟨hcc, hff⟩ := bcell hb1
  have hz : w.heap.size < w1.heap.size := by have := hb1.size; simp at this; omega
  go_wp2
  go_ret
  exact rd_depot_left hr hh hok (((below1 w _).drew).trans (hb1.mono (by simp)))

set_option maxHeartbeats 1000000 in
theorem depot_out (B rb g cap : Nat) (r : Rd) (vs vr : Value) (a b c d e : Int) (w : World) (hr : RdAt w B rb r vs vr) (hh : r.head = false) (hok : headOk a b c d e = false)
    (hg : g < w.heap.size) (h0 : w.cell? ⟨g, 0, none⟩ = some (.int .i64 a)) (h1 : w.cell? ⟨g, 1, none⟩ = some (.int .i64 b)) (h2 : w.cell? ⟨g, 2, none⟩ = some (.int .i64 c)) (h3 : w.cell? ⟨g, 3, none⟩ = some (.int .i64 d)) (h4 : w.cell? ⟨g, 4, none⟩ = some (.int .i64 e)) :
    Calls Tryd.prog 20 #[.pointer (some ⟨rb, 0, none⟩), .slice (some ⟨g, 0, none⟩) 5 cap] w (RdLeft w B rb (rdDepot r a b c d e)) := by
  obtain ⟨c0, c1, c2, c3, c4, c5, c6, c7, hfz, hrl⟩ := rd_cells hr
  rw [hh] at c7
  go_enter Tryd.func20, Tryd.ntmps20
  go_wp2
  go_region
  go_wp2_with fail
  refine (headFits_any _ _ _ _ _ _ _ _).mono ?_
  rintro e1 w1 ⟨rfl, hb1⟩
  rw [hok]
  go_wp2
  go_ret
  exact rd_left_same hr (((below1 w _).drew).trans (hb1.mono (by simp))) (by simp [rdDepot, hh, hok])

set_option maxHeartbeats 1000000 in
theorem depot_bad (B rb n cap : Nat) (ao : Option Addr) (r : Rd) (vs vr : Value) (x : Rd × Int) (w : World) (hr : RdAt w B rb r vs vr) (hx : x = (r, 2)) (hbad : r.head = true ∨ n ≠ 5) :
    Calls Tryd.prog 20 #[.pointer (some ⟨rb, 0, none⟩), .slice ao n cap] w (RdLeft w B rb x) := by
  obtain ⟨c0, c1, c2, c3, c4, c5, c6, c7, hfz, hrl⟩ := rd_cells hr
  clear c0 c1 c2 c3 c4 c5 c6
  cases hh : r.head
  · rw [hh] at c7
    have hn : ((n : Int) != 5) = true := by
      rw [bne_iff_ne]; rcases hbad with h | h
      · rw [hh] at h; cases h
      · omega
    go_enter Tryd.func20, Tryd.ntmps20
    go_wp2
    go_ret
    exact rd_left_same hr (Below.refl _ _) hx
  · rw [hh] at c7
    go_enter Tryd.func20, Tryd.ntmps20
    go_wp2
    go_ret
    exact rd_left_same hr (Below.refl _ _) hx
end Go.Proofs.YtebinaopncclgaaDoor
