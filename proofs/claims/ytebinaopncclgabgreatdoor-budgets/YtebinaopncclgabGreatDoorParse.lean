/- Walks: a text is parsed. -/
import Derived.Test.YtebinaopncclgabGreatDoorBase
import Derived.WalkKit
import Derived.Deep.RegionLaw
import Derived.Test.YtebinaopncclgabGreatDoorSplit
import Derived.Test.YtebinaopncclgabGreatDoorNums
import Derived.Test.YtebinaopncclgabGreatDoorPlainC
import Derived.Test.YtebinaopncclgabGreatDoorFrame
import Derived.Deep.RegionWith
namespace Go.Proofs.YtebinaopncclgabGreatDoor
open Go.RowKit Go.IntWalk

set_option maxHeartbeats 400000 in
theorem headFits_any (v l c n h : Int) (vs vr : Value) (w : World) :
    Calls Tryz.prog 136 #[.agg #[.int .i64 v, .int .i64 l, .int .i64 c, .int .i64 n, .int .i64 h, vs, vr]] w fun e w' => e = .returned (.bool (headOk v l c n h)) ∧ Below w.heap.size w w' := by
  go_enter Tryz.func136, Tryz.ntmps136
  go_wp2_with (go_at_call 193; refine (allFit_n _ 2 [l, c] _ _ rfl (by omega) (cells2 (by simp [go_sem]) (by simp [go_sem]))).mono ?_; rintro e w' ⟨rfl, rfl⟩)
  all_goals
    go_ret
    first
      | exact ⟨ret_bool (headOk_no (by omega)).symm, below1 _ _⟩
      | exact ⟨ret_bool (headOk_yes (by omega)).symm, below2 _ _ _⟩

set_option maxHeartbeats 400000 in
theorem stopFits_any (a b c d e n : Int) (w : World) :
    Calls Tryz.prog 137 #[.agg #[.int .i64 a, .int .i64 b, .int .i64 c, .int .i64 d, .int .i64 e], .int .i64 n] w fun r w' => r = .returned (.bool (stopOk a b c d e n)) ∧ Below w.heap.size w w' := by
  go_enter Tryz.func137, Tryz.ntmps137
  go_wp2_with (go_at_call 193; refine (allFit_n _ 4 [b, c, d, e] _ _ rfl (by omega) (cells4 (by simp [go_sem]) (by simp [go_sem]) (by simp [go_sem]) (by simp [go_sem]))).mono ?_; rintro e w' ⟨rfl, rfl⟩)
  all_goals
    go_ret
    first
      | exact ⟨ret_bool (stopOk_no (by omega)).symm, below1 _ _⟩
      | exact ⟨ret_bool (stopOk_yes (by omega)).symm, below2 _ _ _⟩

set_option maxHeartbeats 400000 in
theorem roadFits_any (a b c n : Int) (w : World) :
    Calls Tryz.prog 138 #[.agg #[.int .i64 a, .int .i64 b, .int .i64 c], .int .i64 n] w fun r w' => r = .returned (.bool (roadOk a b c n)) ∧ Below w.heap.size w w' := by
  go_enter Tryz.func138, Tryz.ntmps138
  go_wp2_with (go_at_call 193; refine (allFit_n _ 1 [c] _ _ rfl (by omega) (cells1 (by simp [go_sem]))).mono ?_; rintro e w' ⟨rfl, rfl⟩)
  all_goals
    go_ret
    first
      | exact ⟨ret_bool (roadOk_no (by omega)).symm, below1 _ _⟩
      | exact ⟨ret_bool (roadOk_yes (by omega)).symm, below2 _ _ _⟩
end Go.Proofs.YtebinaopncclgabGreatDoor
namespace Go.Proofs.YtebinaopncclgabGreatDoor
open Go Go.RowKit

theorem step_append_own {P : Program} {ops : Array Oper} {o : Oper} {a : Act} {w : World} {K : Act → World → Prop} {Q : Exit → Act → World → Prop} {E : Prop}
    (hg : o.guard = none) (s x : Operand) (t : TypeId) (hop : o.op = Op.call { callee := Callee.builtin Builtin.append, args := #[s, x], argTypes := #[t, t] })
    (base : Nat) (e : TypeId) (i : TypeInfo) (z : Value) (size bytes : Nat) (h1 : P.underlying t = some (.slice e)) (h2 : P.info? e = some i) (h3 : i.zero = some z) (h4 : i.size = size) (h5 : i.bytes = bytes) (h6 : z.cells.size = size) (h7 : 0 < size)
    (v : Value) (n : Nat) (xs : List Value) (hs : a.eval s = v) (hown : w.ownsRow base e size v n xs)
    (ad : Addr) (m c : Nat) (news : List Value) (hx : a.eval x = .slice (some ad) m c) (hn : news.length = m * size) (hc : ∀ j u, news[j]? = some u → w.cell? (ad.add j) = some u) (h1c : ∀ u ∈ news, u.oneCell' = true)
    (b1 : n + m ≤ maxLen) (b2 : (n + m) * bytes ≤ 140737488355328) (b3 : base ≤ w.heap.size)
    (hK : ∀ v' w', w'.ownsRow base e size v' (n + m) (xs ++ news) → w.grownBy w' v.ownBlock → K (a.put o.dst v') w') :
    if Region.wanted o (yielded ops a.tmps) = true then Oper.wp P o a w K Q else E := by
  have hw : Region.wanted o (yielded ops a.tmps) = true := by simp [Region.wanted, hg]
  rw [if_pos hw]
  obtain ⟨v', w', hrun, r1, r2, _⟩ := run_append_own (P := P) w base t o.type e i z size bytes h1 h2 h3 h4 h5 h6 h7 v n xs hown ad m c news hn hc h1c b1 b2 b3
  unfold Oper.wp
  simp [execOp, hop, resolve, invoke, builtin, hs, hx, hrun, Result.andThen]
  exact hK v' w' r1 r2
end Go.Proofs.YtebinaopncclgabGreatDoor
namespace Go.Proofs.YtebinaopncclgabGreatDoor
open Go.RowKit Go.IntWalk

def rdT : List TypeId := [147, 62, 64]
def rdCells (r : Rd) (vs vr : Value) : Array Value := #[.int .i64 r.vans, .int .i64 r.load, .int .i64 r.close, .int .i64 r.nodes, .int .i64 r.home, vs, vr, .bool r.head]
def RdAt (w : World) (B rb : Nat) (r : Rd) (vs vr : Value) : Prop :=
  B ≤ rb ∧ w.heap[rb]? = some (.cells (rdCells r vs vr) 147 (0, 0)) ∧ w.ownsRow B 62 5 vs r.stops.length (ints r.stops.flatten) ∧ w.ownsRow B 64 3 vr r.roads.length (ints r.roads.flatten)
def RdLeft (w : World) (B rb : Nat) (x : Rd × Int) (e : Ending) (w' : World) : Prop :=
  ∃ vs' vr', e = .returned (.int .i64 x.2) ∧ RdAt w' B rb x.1 vs' vr' ∧ Below B w w' ∧ Keep rdT w w'

theorem rd_cells {w : World} {B rb : Nat} {r : Rd} {vs vr : Value} (h : RdAt w B rb r vs vr) :
    w.cell? ⟨rb, 0, none⟩ = some (.int .i64 r.vans) ∧ w.cell? ⟨rb, 1, none⟩ = some (.int .i64 r.load) ∧ w.cell? ⟨rb, 2, none⟩ = some (.int .i64 r.close) ∧ w.cell? ⟨rb, 3, none⟩ = some (.int .i64 r.nodes) ∧ w.cell? ⟨rb, 4, none⟩ = some (.int .i64 r.home) ∧
    w.cell? ⟨rb, 5, none⟩ = some vs ∧ w.cell? ⟨rb, 6, none⟩ = some vr ∧ w.cell? ⟨rb, 7, none⟩ = some (.bool r.head) ∧ (∀ o, w.frozen? ⟨rb, o, none⟩ = false) ∧ rb < w.heap.size := by
  have hh := h.2.1
  have hc : ∀ j, w.cell? ⟨rb, j, none⟩ = (rdCells r vs vr)[j]? := fun j => cell_of_row w rb j _ _ _ hh
  refine ⟨?_, ?_, ?_, ?_, ?_, ?_, ?_, ?_, fun o => frozen_of_row w rb o _ _ hh, (Array.getElem?_eq_some_iff.1 hh).1⟩ <;> (rw [hc]; rfl)
theorem bcell {W w1 : World} (hb : Below W.heap.size W w1) : (∀ b o, b < W.heap.size → w1.cell? ⟨b, o, none⟩ = W.cell? ⟨b, o, none⟩) ∧ (∀ b o, b < W.heap.size → w1.frozen? ⟨b, o, none⟩ = W.frozen? ⟨b, o, none⟩) :=
  ⟨fun b o h => hb.cell (p := ⟨b, o, none⟩) h, fun b o h => hb.frozen (p := ⟨b, o, none⟩) h⟩
theorem rd_same {w w' : World} {B rb : Nat} {r : Rd} {vs vr : Value} (h : RdAt w B rb r vs vr) (hb : Below w.heap.size w w') : RdAt w' B rb r vs vr :=
  ⟨h.1, by rw [hb.block rb (Array.getElem?_eq_some_iff.1 h.2.1).1]; exact h.2.1, own_below h.2.2.1 hb, own_below h.2.2.2 hb⟩
theorem rd_left_same {w w' : World} {B rb : Nat} {r : Rd} {vs vr : Value} {x : Rd × Int} {c : Int} (h : RdAt w B rb r vs vr) (hb : Below w.heap.size w w') (hx : x = (r, c)) : RdLeft w B rb x (.returned (.int .i64 c)) w' := by
  subst hx
  exact ⟨vs, vr, rfl, rd_same h hb, hb.mono (by have := h.1; have := (Array.getElem?_eq_some_iff.1 h.2.1).1; omega), Keep.of_below hb⟩

/- stores into the reader's own block -/
def Puts (B rb : Nat) (w w' : World) (cs : Array Value) : Prop := w'.heap[rb]? = some (.cells cs 147 (0, 0)) ∧ Below B w w' ∧ Keep [147] w w'
theorem Puts.refl {B rb : Nat} {w : World} {cs : Array Value} (h : w.heap[rb]? = some (.cells cs 147 (0, 0))) : Puts B rb w w cs := ⟨h, Below.refl _ _, Keep.refl _ _⟩
theorem Puts.put {B rb : Nat} {w w' : World} {cs : Array Value} (hB : B ≤ rb) (h : Puts B rb w w' cs) (o : Nat) (u : Value) : Puts B rb w (w'.setCell ⟨rb, o, none⟩ u) (cs.setIfInBounds o u) :=
  ⟨heap_setCell_same w' rb o cs _ u h.1, h.2.1.setCell hB u, h.2.2.trans (Keep.setCell h.1 (by simp) u)⟩

theorem cells8 (x0 x1 x2 x3 x4 x5 x6 x7 u0 u1 u2 u3 u4 u5 u6 u7 : Value) : ((((((((#[x0, x1, x2, x3, x4, x5, x6, x7] : Array Value).setIfInBounds 0 u0).setIfInBounds 1 u1).setIfInBounds 2 u2).setIfInBounds 3 u3).setIfInBounds 4 u4).setIfInBounds 5 u5).setIfInBounds 6 u6).setIfInBounds 7 u7 = #[u0, u1, u2, u3, u4, u5, u6, u7] := by simp
theorem rd_depot_left {w w1 : World} {B rb : Nat} {r : Rd} {vs vr : Value} {a b c d e : Int} (h : RdAt w B rb r vs vr) (hh : r.head = false) (hok : headOk a b c d e = true) (hb : Below w.heap.size w w1) :
    RdLeft w B rb (rdDepot r a b c d e) (.returned (.int .i64 0)) ((((((((w1.setCell ⟨rb, 0, none⟩ (.int .i64 a)).setCell ⟨rb, 1, none⟩ (.int .i64 b)).setCell ⟨rb, 2, none⟩ (.int .i64 c)).setCell ⟨rb, 3, none⟩ (.int .i64 d)).setCell ⟨rb, 4, none⟩ (.int .i64 e)).setCell ⟨rb, 5, none⟩ (.slice none 0 0)).setCell ⟨rb, 6, none⟩ (.slice none 0 0)).setCell ⟨rb, 7, none⟩ (.bool true)) := by
  have h1 := rd_same h hb
  have hB := h.1
  have hsz : B ≤ w.heap.size := by have := (Array.getElem?_eq_some_iff.1 h.2.1).1; omega
  have h11 := h1.2.1
  unfold rdCells at h11
  have P := ((((((((Puts.refl (B := B) h11).put hB 0 (.int .i64 a)).put hB 1 (.int .i64 b)).put hB 2 (.int .i64 c)).put hB 3 (.int .i64 d)).put hB 4 (.int .i64 e)).put hB 5 (.slice none 0 0)).put hB 6 (.slice none 0 0)).put hB 7 (.bool true)
  rw [cells8] at P
  have hx : rdDepot r a b c d e = ({ vans := a, load := b, close := c, nodes := d, home := e, stops := [], roads := [], head := true }, 0) := by simp [rdDepot, hh, hok]
  rw [hx]
  refine ⟨.slice none 0 0, .slice none 0 0, rfl, ⟨hB, P.1, World.ownsRow_nil _ _ _ _, World.ownsRow_nil _ _ _ _⟩, (hb.mono hsz).trans P.2.1, (Keep.of_below hb).trans ?_⟩
  intro k cur t z hk ht
  exact P.2.2 k cur t z hk (by simp only [rdT, List.mem_cons, not_or] at ht; simp [ht.1])

set_option maxHeartbeats 1000000 in
theorem depot_in (B rb g cap : Nat) (r : Rd) (vs vr : Value) (a b c d e : Int) (w : World) (hr : RdAt w B rb r vs vr) (hh : r.head = false) (hok : headOk a b c d e = true)
    (hg : g < w.heap.size) (h0 : w.cell? ⟨g, 0, none⟩ = some (.int .i64 a)) (h1 : w.cell? ⟨g, 1, none⟩ = some (.int .i64 b)) (h2 : w.cell? ⟨g, 2, none⟩ = some (.int .i64 c)) (h3 : w.cell? ⟨g, 3, none⟩ = some (.int .i64 d)) (h4 : w.cell? ⟨g, 4, none⟩ = some (.int .i64 e)) :
    Calls Tryz.prog 133 #[.pointer (some ⟨rb, 0, none⟩), .slice (some ⟨g, 0, none⟩) 5 cap] w (RdLeft w B rb (rdDepot r a b c d e)) := by
  obtain ⟨c0, c1, c2, c3, c4, c5, c6, c7, hfz, hrl⟩ := rd_cells hr
  rw [hh] at c7
  go_enter Tryz.func133, Tryz.ntmps133
  go_wp2
  go_region
  go_wp2_with fail
  refine (headFits_any _ _ _ _ _ _ _ _).mono ?_
  rintro e1 w1 ⟨rfl, hb1⟩
  rw [hok]
  obtain ⟨hcc, hff⟩ := bcell hb1
  have hz : w.heap.size < w1.heap.size := by have := hb1.size; simp at this; omega
  go_wp2
  go_ret
  exact rd_depot_left hr hh hok (((below1 w _).drew).trans (hb1.mono (by simp)))

set_option maxHeartbeats 1000000 in
theorem depot_out (B rb g cap : Nat) (r : Rd) (vs vr : Value) (a b c d e : Int) (w : World) (hr : RdAt w B rb r vs vr) (hh : r.head = false) (hok : headOk a b c d e = false)
    (hg : g < w.heap.size) (h0 : w.cell? ⟨g, 0, none⟩ = some (.int .i64 a)) (h1 : w.cell? ⟨g, 1, none⟩ = some (.int .i64 b)) (h2 : w.cell? ⟨g, 2, none⟩ = some (.int .i64 c)) (h3 : w.cell? ⟨g, 3, none⟩ = some (.int .i64 d)) (h4 : w.cell? ⟨g, 4, none⟩ = some (.int .i64 e)) :
    Calls Tryz.prog 133 #[.pointer (some ⟨rb, 0, none⟩), .slice (some ⟨g, 0, none⟩) 5 cap] w (RdLeft w B rb (rdDepot r a b c d e)) := by
  obtain ⟨c0, c1, c2, c3, c4, c5, c6, c7, hfz, hrl⟩ := rd_cells hr
  rw [hh] at c7
  go_enter Tryz.func133, Tryz.ntmps133
  go_wp2
  go_region
  go_wp2_with fail
  refine (headFits_any _ _ _ _ _ _ _ _).mono ?_
  rintro e1 w1 ⟨rfl, hb1⟩
  rw [hok]
  go_wp2
  go_ret
  exact rd_left_same hr (((below1 w _).drew).trans (hb1.mono (by simp))) (by simp [rdDepot, hh, hok])

set_option maxHeartbeats 1000000 in
theorem depot_bad (B rb n cap : Nat) (ao : Option Addr) (r : Rd) (vs vr : Value) (x : Rd × Int) (w : World) (hr : RdAt w B rb r vs vr) (hx : x = (r, 2)) (hbad : r.head = true ∨ n ≠ 5) :
    Calls Tryz.prog 133 #[.pointer (some ⟨rb, 0, none⟩), .slice ao n cap] w (RdLeft w B rb x) := by
  obtain ⟨c0, c1, c2, c3, c4, c5, c6, c7, hfz, hrl⟩ := rd_cells hr
  clear c0 c1 c2 c3 c4 c5 c6
  cases hh : r.head
  · rw [hh] at c7
    have hn : ((n : Int) != 5) = true := by
      rw [bne_iff_ne]; rcases hbad with h | h
      · rw [hh] at h; cases h
      · omega
    go_enter Tryz.func133, Tryz.ntmps133
    go_wp2
    go_ret
    exact rd_left_same hr (Below.refl _ _) hx
  · rw [hh] at c7
    go_enter Tryz.func133, Tryz.ntmps133
    go_wp2
    go_ret
    exact rd_left_same hr (Below.refl _ _) hx
end Go.Proofs.YtebinaopncclgabGreatDoor
namespace Go.Proofs.YtebinaopncclgabGreatDoor
open Go.RowKit Go.IntWalk
theorem Tryz.infoStop : (Tryz.prog.info? 62).map (fun i => (i.zero, i.size, i.bytes)) = some (some (.agg #[.int .i64 0, .int .i64 0, .int .i64 0, .int .i64 0, .int .i64 0]), 5, 40) := by kernel_rfl
theorem Tryz.infoRoad : (Tryz.prog.info? 64).map (fun i => (i.zero, i.size, i.bytes)) = some (some (.agg #[.int .i64 0, .int .i64 0, .int .i64 0]), 3, 24) := by kernel_rfl

theorem hide {p : Prop} (h : p) : Hid p := h
theorem box_facts {w w0 w1 : World} {cs : Array Value} {t : TypeId} (hb : Below w0.heap.size w0 w1) (hh : w0.heap = (w.alloc (.cells cs t)).heap) (ho : w0.os = w.os) (ht : w0.tape = w.tape) (hu : w0.output = w.output) :
    Below w.heap.size w w1 ∧ w.heap.size < w1.heap.size ∧ ∀ j, w1.cell? ⟨w.heap.size, j, none⟩ = cs[j]? := by
  have hs0 : w0.heap.size = w.heap.size + 1 := by rw [hh]; show (w.heap.push _).size = _; simp
  have hs1 := hb.size
  refine ⟨⟨hb.os.trans ho, hb.tape.trans ht, hb.output.trans hu, by omega, fun k hk => ?_⟩, by omega, fun j => ?_⟩
  · rw [hb.block k (by omega), hh]; exact Below.heap_alloc _ _ _ hk
  · rw [hb.cell (p := ⟨w.heap.size, j, none⟩) (show w.heap.size < w0.heap.size by omega)]
    refine cell_of_row w0 w.heap.size j cs t (0, 0) ?_
    rw [hh]; exact heap_alloc_new w _

theorem own_heap {w X : World} {v : Value} {B n size : Nat} {e : TypeId} {xs : List Value} (h : w.ownsRow B e size v n xs) (hh : X.heap = w.heap) : X.ownsRow B e size v n xs := by
  unfold World.ownsRow at *; rw [hh]; exact h
theorem own_new {w X : World} {v v' : Value} {B n size : Nat} {e : TypeId} {xs : List Value} {o : Obj} (hv : v = v') (h : w.ownsRow B e size v n xs) (hh : X.heap = (w.alloc o).heap) : X.ownsRow B e size v' n xs := by
  subst hv; exact own_heap (h.alloc o) hh
theorem news_at {w X : World} {cs : Array Value} {t : TypeId} {l : List Value} (hl : l = cs.toList) (hh : X.heap = (w.alloc (.cells cs t)).heap) : ∀ j u, l[j]? = some u → X.cell? ((⟨w.heap.size, 0, none⟩ : Addr).add j) = some u := by
  intro j u hu
  subst hl
  rw [Addr.add_lit, Nat.zero_add, cell_of_row X w.heap.size j cs t (0, 0) (by rw [hh]; exact heap_alloc_new w _)]
  simpa using hu
theorem ints5 (a b c d e : Int) : ∀ u ∈ [Value.int .i64 a, .int .i64 b, .int .i64 c, .int .i64 d, .int .i64 e], u.oneCell' = true := by
  intro u hu; simp at hu; rcases hu with rfl | rfl | rfl | rfl | rfl <;> rfl
theorem ints3 (a b c : Int) : ∀ u ∈ [Value.int .i64 a, .int .i64 b, .int .i64 c], u.oneCell' = true := by
  intro u hu; simp at hu; rcases hu with rfl | rfl | rfl <;> rfl
theorem lt_new {w X : World} {o : Obj} {B rb : Nat} (hh : X.heap = (w.alloc o).heap) (hB : B ≤ rb) (h : rb < w.heap.size) : B ≤ X.heap.size := by
  rw [hh]; show B ≤ (w.heap.push o).size; simp; omega

/- the reader behind an append onto one of its lists -/
theorem rd_after {w X w' : World} {o : Obj} {B rb n size : Nat} {r : Rd} {vs vr v : Value} {e : TypeId} {xs : List Value} (hg : X.grownBy w' v.ownBlock) (hr : RdAt w B rb r vs vr) (hh : X.heap = (w.alloc o).heap) (hv : w.ownsRow B e size v n xs) (he : e ≠ 147) : w'.heap[rb]? = some (.cells (rdCells r vs vr) 147 (0, 0)) := by
  have hX : X.heap[rb]? = some (.cells (rdCells r vs vr) 147 (0, 0)) := by
    rw [hh, Below.heap_alloc _ _ _ (Array.getElem?_eq_some_iff.1 hr.2.1).1]; exact hr.2.1
  exact Keep.grown (T := [e]) (own_heap (hv.alloc o) hh) (by simp) hg rb _ _ _ hX (by simp; exact fun h => he h.symm)
theorem rd_after_cells {w' : World} {rb : Nat} {r : Rd} {vs vr : Value} (h : w'.heap[rb]? = some (.cells (rdCells r vs vr) 147 (0, 0))) :
    w'.cell? ⟨rb, 5, none⟩ = some vs ∧ w'.cell? ⟨rb, 6, none⟩ = some vr ∧ w'.frozen? ⟨rb, 5, none⟩ = false ∧ w'.frozen? ⟨rb, 6, none⟩ = false :=
  ⟨by rw [cell_of_row w' rb 5 _ _ _ h]; rfl, by rw [cell_of_row w' rb 6 _ _ _ h]; rfl, frozen_of_row w' rb 5 _ _ h, frozen_of_row w' rb 6 _ _ h⟩
theorem keep_of {w w' : World} {e : TypeId} (h : Keep [e] w w') (he : e ∈ rdT) : Keep rdT w w' := fun k cur t z hk ht => h k cur t z hk (by intro h'; simp at h'; subst h'; exact ht he)
theorem keep_new {w X : World} {o : Obj} (hh : X.heap = (w.alloc o).heap) : Keep rdT w X := fun k cur t z hk _ => by
  rw [hh, Below.heap_alloc _ _ _ (Array.getElem?_eq_some_iff.1 hk).1]; exact hk
theorem below_new {w X : World} {o : Obj} (hh : X.heap = (w.alloc o).heap) (ho : X.os = w.os) (ht : X.tape = w.tape) (hu : X.output = w.output) : Below w.heap.size w X :=
  ⟨ho, ht, hu, by rw [hh]; show _ ≤ (w.heap.push o).size; simp, fun k hk => by rw [hh]; exact Below.heap_alloc _ _ _ hk⟩

theorem ints_append (a b : List Int) : ints (a ++ b) = ints a ++ ints b := by simp [ints]
theorem stop_eq {r : Rd} {a b c d e : Int} (hh : r.head = true) (hlen : r.stops.length < 7) (hok : stopOk a b c d e r.nodes = true) : rdStop r a b c d e = ({ r with stops := r.stops ++ [[a, b, c, d, e]] }, 0) := by
  unfold rdStop; rw [if_neg (by simp [hh]), if_neg (by omega), if_pos hok]
theorem stop_left {w w1 X w2 : World} {o : Obj} {B rb : Nat} {r : Rd} {vs vr v' : Value} {a b c d e : Int} (hg : X.grownBy w2 vs.ownBlock) (hr : RdAt w B rb r vs vr) (hw1 : Below w.heap.size w w1) (hh : X.heap = (w1.alloc o).heap) (ho : X.os = w1.os) (ht : X.tape = w1.tape) (hu : X.output = w1.output)
    (hown : w2.ownsRow B 62 5 v' (r.stops.length + 1) (ints r.stops.flatten ++ [.int .i64 a, .int .i64 b, .int .i64 c, .int .i64 d, .int .i64 e]))
    (hx : rdStop r a b c d e = ({ r with stops := r.stops ++ [[a, b, c, d, e]] }, 0)) :
    RdLeft w B rb (rdStop r a b c d e) (.returned (.int .i64 0)) (w2.setCell ⟨rb, 5, none⟩ v') := by
  have hr1 := rd_same hr hw1
  have hrb := rd_after hg hr1 hh hr1.2.2.1 (by decide)
  have hsz : B ≤ w.heap.size := by have := (Array.getElem?_eq_some_iff.1 hr.2.1).1; have := hr.1; omega
  have hX : Below w1.heap.size w1 X := below_new hh ho ht hu
  have hwX : Below w.heap.size w X := hw1.trans (hX.mono hw1.size)
  have hbX : Below B X w2 := (Below.refl _ _).grown hg (by have := hwX.size; omega) (fun k hk => (hr1.2.2.1.lt k hk).1)
  have hrd : w2.ownsRow B 64 3 vr r.roads.length (ints r.roads.flatten) :=
    (own_below hr1.2.2.2 hX).kept hg (own_ne hr1.2.2.2 hr1.2.2.1 (by decide))
  rw [hx]
  have hown' : w2.ownsRow B 62 5 v' (r.stops ++ [[a, b, c, d, e]]).length (ints (r.stops ++ [[a, b, c, d, e]]).flatten) := by
    rw [List.length_append, List.flatten_append, ints_append]; simpa [ints] using hown
  refine ⟨v', vr, rfl, ⟨hr.1, ?_, own_setCell hown' hrb (by decide) _, own_setCell hrd hrb (by decide) _⟩, ?_, ?_⟩
  · rw [heap_setCell_same w2 rb 5 _ _ _ hrb]; rfl
  · exact ((hwX.mono hsz).trans hbX).setCell hr.1 _
  · exact (((Keep.of_below hw1).trans (keep_new hh)).trans (keep_of (Keep.grown (T := [62]) (own_below hr1.2.2.1 hX) (by simp) hg) (by decide))).trans (keep_of (e := 147) (Keep.setCell hrb (by simp) _) (by decide))

end Go.Proofs.YtebinaopncclgabGreatDoor
namespace Go.Proofs.YtebinaopncclgabGreatDoor
open Go.RowKit Go.IntWalk

theorem road_eq {r : Rd} {a b c : Int} (hh : r.head = true) (hlen : r.roads.length < 40) (hok : roadOk a b c r.nodes = true) : rdRoad r a b c = ({ r with roads := r.roads ++ [[a, b, c]] }, 0) := by
  unfold rdRoad; rw [if_neg (by simp [hh]), if_neg (by omega), if_pos hok]
theorem road_left {w w1 X w2 : World} {o : Obj} {B rb : Nat} {r : Rd} {vs vr v' : Value} {a b c : Int} (hg : X.grownBy w2 vr.ownBlock) (hr : RdAt w B rb r vs vr) (hw1 : Below w.heap.size w w1) (hh : X.heap = (w1.alloc o).heap) (ho : X.os = w1.os) (ht : X.tape = w1.tape) (hu : X.output = w1.output)
    (hown : w2.ownsRow B 64 3 v' (r.roads.length + 1) (ints r.roads.flatten ++ [.int .i64 a, .int .i64 b, .int .i64 c]))
    (hx : rdRoad r a b c = ({ r with roads := r.roads ++ [[a, b, c]] }, 0)) :
    RdLeft w B rb (rdRoad r a b c) (.returned (.int .i64 0)) (w2.setCell ⟨rb, 6, none⟩ v') := by
  have hr1 := rd_same hr hw1
  have hrb := rd_after hg hr1 hh hr1.2.2.2 (by decide)
  have hsz : B ≤ w.heap.size := by have := (Array.getElem?_eq_some_iff.1 hr.2.1).1; have := hr.1; omega
  have hX : Below w1.heap.size w1 X := below_new hh ho ht hu
  have hwX : Below w.heap.size w X := hw1.trans (hX.mono hw1.size)
  have hbX : Below B X w2 := (Below.refl _ _).grown hg (by have := hwX.size; omega) (fun k hk => (hr1.2.2.2.lt k hk).1)
  have hrd : w2.ownsRow B 62 5 vs r.stops.length (ints r.stops.flatten) :=
    (own_below hr1.2.2.1 hX).kept hg (own_ne hr1.2.2.1 hr1.2.2.2 (by decide))
  rw [hx]
  have hown' : w2.ownsRow B 64 3 v' (r.roads ++ [[a, b, c]]).length (ints (r.roads ++ [[a, b, c]]).flatten) := by
    rw [List.length_append, List.flatten_append, ints_append]; simpa [ints] using hown
  refine ⟨vs, v', rfl, ⟨hr.1, ?_, own_setCell hrd hrb (by decide) _, own_setCell hown' hrb (by decide) _⟩, ?_, ?_⟩
  · rw [heap_setCell_same w2 rb 6 _ _ _ hrb]; rfl
  · exact ((hwX.mono hsz).trans hbX).setCell hr.1 _
  · exact (((Keep.of_below hw1).trans (keep_new hh)).trans (keep_of (Keep.grown (T := [64]) (own_below hr1.2.2.2 hX) (by simp) hg) (by decide))).trans (keep_of (e := 147) (Keep.setCell hrb (by simp) _) (by decide))

set_option maxRecDepth 100000 in
set_option maxHeartbeats 1000000 in
theorem road_in (B rb g cap : Nat) (r : Rd) (vs vr : Value) (a b c : Int) (w : World) (hr : RdAt w B rb r vs vr) (hh : r.head = true) (hlen : r.roads.length < 40) (hok : roadOk a b c r.nodes = true)
    (hg : g < w.heap.size) (h0 : w.cell? ⟨g, 0, none⟩ = some (.int .i64 a)) (h1 : w.cell? ⟨g, 1, none⟩ = some (.int .i64 b)) (h2 : w.cell? ⟨g, 2, none⟩ = some (.int .i64 c)) :
    Calls Tryz.prog 135 #[.pointer (some ⟨rb, 0, none⟩), .slice (some ⟨g, 0, none⟩) 3 cap] w (RdLeft w B rb (rdRoad r a b c)) := by
  obtain ⟨c0, c1, c2, c3, c4, c5, c6, c7, hfz, hrl⟩ := rd_cells hr
  obtain ⟨i0, hi, hz0, hz1, hz2⟩ := info_parts Tryz.infoRoad
  obtain ⟨aos, caps, rfl, _, _⟩ := own_val hr.2.2.2
  rw [hh] at c7
  clear c0 c1 c2 c4 c5
  go_enter Tryz.func135, Tryz.ntmps135
  go_wp2
  go_region
  go_wp2_with fail
  go_region_with (go_at_call 138; refine (roadFits_any _ _ _ _ _).mono ?_; rintro e1 w1 ⟨rfl, hb1⟩)
  all_goals
    obtain ⟨hw1, hz, hbox⟩ := box_facts (w := w) (cs := #[.int .i64 a, .int .i64 b, .int .i64 c]) (t := 64) hb1 rfl rfl rfl rfl
    clear hb1
    have b0 : w1.cell? ⟨w.heap.size, 0, none⟩ = some (.int .i64 a) := hbox 0
    have b1 : w1.cell? ⟨w.heap.size, 1, none⟩ = some (.int .i64 b) := hbox 1
    have b2 : w1.cell? ⟨w.heap.size, 2, none⟩ = some (.int .i64 c) := hbox 2
    clear hbox h0 h1 h2
    have HR := hide (rd_same hr hw1)
    have HW := hide hw1
    have HX : Hid (rdRoad r a b c = ({ r with roads := r.roads ++ [[a, b, c]] }, 0)) := road_eq hh hlen hok
    have d5 : w1.cell? ⟨rb, 6, none⟩ = some (.slice aos r.roads.length caps) := (hw1.cell (by exact hrl)).trans c6
    have hf5 : w1.frozen? ⟨rb, 6, none⟩ = false := (hw1.frozen (by exact hrl)).trans (hfz 6)
    have hrl1 : rb < w1.heap.size := by omega
    clear hw1 c6 c7 c3 hfz
    go_wp2
    go_region_law (refine step_append_own rfl (.tmp 46) (.tmp 48) 26 rfl B 64 i0 (.agg #[.int .i64 0, .int .i64 0, .int .i64 0]) 3 24 Tryz.underlying26 hi hz0 hz1 hz2 rfl (by decide) (.slice aos r.roads.length caps) r.roads.length (ints r.roads.flatten) (by simp [Act.eval]) (by exact own_new rfl HR.out.2.2.2 rfl) ⟨w1.heap.size, 0, none⟩ 1 1 [.int .i64 a, .int .i64 b, .int .i64 c] (by simp [Act.eval]) rfl (by exact news_at rfl rfl) (by exact ints3 _ _ _) (by unfold maxLen; omega) (by omega) (by exact lt_new rfl HR.out.1 hrl1) ?_; intro v' w2 hown2 hgrow2; have HO := hide hown2; have HG := hide hgrow2; obtain ⟨g5, cap5, cur5, hv5, _, _, _⟩ := own_shape hown2 (by omega); clear hown2 hgrow2; subst hv5; obtain ⟨_, e5, _, f5⟩ := rd_after_cells (rd_after HG.out HR.out rfl HR.out.2.2.2 (by decide)))
    all_goals
      go_wp2
      go_ret
      exact road_left HG.out hr HW.out rfl rfl rfl rfl HO.out HX.out

end Go.Proofs.YtebinaopncclgabGreatDoor
namespace Go.Proofs.YtebinaopncclgabGreatDoor
open Go.RowKit Go.IntWalk

set_option maxRecDepth 100000 in
set_option maxHeartbeats 1000000 in
theorem stop_in (B rb g cap : Nat) (r : Rd) (vs vr : Value) (a b c d e : Int) (w : World) (hr : RdAt w B rb r vs vr) (hh : r.head = true) (hlen : r.stops.length < 7) (hok : stopOk a b c d e r.nodes = true)
    (hg : g < w.heap.size) (h0 : w.cell? ⟨g, 0, none⟩ = some (.int .i64 a)) (h1 : w.cell? ⟨g, 1, none⟩ = some (.int .i64 b)) (h2 : w.cell? ⟨g, 2, none⟩ = some (.int .i64 c)) (h3 : w.cell? ⟨g, 3, none⟩ = some (.int .i64 d)) (h4 : w.cell? ⟨g, 4, none⟩ = some (.int .i64 e)) :
    Calls Tryz.prog 134 #[.pointer (some ⟨rb, 0, none⟩), .slice (some ⟨g, 0, none⟩) 5 cap] w (RdLeft w B rb (rdStop r a b c d e)) := by
  obtain ⟨c0, c1, c2, c3, c4, c5, c6, c7, hfz, hrl⟩ := rd_cells hr
  obtain ⟨i0, hi, hz0, hz1, hz2⟩ := info_parts Tryz.infoStop
  obtain ⟨aos, caps, rfl, _, _⟩ := own_val hr.2.2.1
  rw [hh] at c7
  clear c0 c1 c2 c4 c6
  go_enter Tryz.func134, Tryz.ntmps134
  go_wp2
  go_region
  go_wp2_with fail
  go_region_with (go_at_call 137; refine (stopFits_any _ _ _ _ _ _ _).mono ?_; rintro e1 w1 ⟨rfl, hb1⟩)
  all_goals
    obtain ⟨hw1, hz, hbox⟩ := box_facts (w := w) (cs := #[.int .i64 a, .int .i64 b, .int .i64 c, .int .i64 d, .int .i64 e]) (t := 62) hb1 rfl rfl rfl rfl
    clear hb1
    have b0 : w1.cell? ⟨w.heap.size, 0, none⟩ = some (.int .i64 a) := hbox 0
    have b1 : w1.cell? ⟨w.heap.size, 1, none⟩ = some (.int .i64 b) := hbox 1
    have b2 : w1.cell? ⟨w.heap.size, 2, none⟩ = some (.int .i64 c) := hbox 2
    have b3 : w1.cell? ⟨w.heap.size, 3, none⟩ = some (.int .i64 d) := hbox 3
    have b4 : w1.cell? ⟨w.heap.size, 4, none⟩ = some (.int .i64 e) := hbox 4
    clear hbox h0 h1 h2 h3 h4
    have HR := hide (rd_same hr hw1)
    have HW := hide hw1
    have HX : Hid (rdStop r a b c d e = ({ r with stops := r.stops ++ [[a, b, c, d, e]] }, 0)) := stop_eq hh hlen hok
    have d5 : w1.cell? ⟨rb, 5, none⟩ = some (.slice aos r.stops.length caps) := (hw1.cell (by exact hrl)).trans c5
    have hf5 : w1.frozen? ⟨rb, 5, none⟩ = false := (hw1.frozen (by exact hrl)).trans (hfz 5)
    have hrl1 : rb < w1.heap.size := by omega
    clear hw1 c5 c7 c3 hfz
    go_wp2
    go_region_law (refine step_append_own rfl (.tmp 52) (.tmp 54) 25 rfl B 62 i0 (.agg #[.int .i64 0, .int .i64 0, .int .i64 0, .int .i64 0, .int .i64 0]) 5 40 Tryz.underlying25 hi hz0 hz1 hz2 rfl (by decide) (.slice aos r.stops.length caps) r.stops.length (ints r.stops.flatten) (by simp [Act.eval]) (by exact own_new rfl HR.out.2.2.1 rfl) ⟨w1.heap.size, 0, none⟩ 1 1 [.int .i64 a, .int .i64 b, .int .i64 c, .int .i64 d, .int .i64 e] (by simp [Act.eval]) rfl (by exact news_at rfl rfl) (by exact ints5 _ _ _ _ _) (by unfold maxLen; omega) (by omega) (by exact lt_new rfl HR.out.1 hrl1) ?_; intro v' w2 hown2 hgrow2; have HO := hide hown2; have HG := hide hgrow2; obtain ⟨g5, cap5, cur5, hv5, _, _, _⟩ := own_shape hown2 (by omega); clear hown2 hgrow2; subst hv5; obtain ⟨e5, _, f5, _⟩ := rd_after_cells (rd_after HG.out HR.out rfl HR.out.2.2.1 (by decide)))
    all_goals
      go_wp2
      go_ret
      exact stop_left HG.out hr HW.out rfl rfl rfl rfl HO.out HX.out

end Go.Proofs.YtebinaopncclgabGreatDoor
namespace Go.Proofs.YtebinaopncclgabGreatDoor
open Go.RowKit Go.IntWalk

set_option maxRecDepth 100000 in
set_option maxHeartbeats 1000000 in
theorem stop_out (B rb g cap : Nat) (r : Rd) (vs vr : Value) (a b c d e : Int) (w : World) (hr : RdAt w B rb r vs vr) (hh : r.head = true) (hlen : r.stops.length < 7) (hok : stopOk a b c d e r.nodes = false)
    (hg : g < w.heap.size) (h0 : w.cell? ⟨g, 0, none⟩ = some (.int .i64 a)) (h1 : w.cell? ⟨g, 1, none⟩ = some (.int .i64 b)) (h2 : w.cell? ⟨g, 2, none⟩ = some (.int .i64 c)) (h3 : w.cell? ⟨g, 3, none⟩ = some (.int .i64 d)) (h4 : w.cell? ⟨g, 4, none⟩ = some (.int .i64 e)) :
    Calls Tryz.prog 134 #[.pointer (some ⟨rb, 0, none⟩), .slice (some ⟨g, 0, none⟩) 5 cap] w (RdLeft w B rb (rdStop r a b c d e)) := by
  obtain ⟨c0, c1, c2, c3, c4, c5, c6, c7, hfz, hrl⟩ := rd_cells hr
  obtain ⟨aos, caps, rfl, _, _⟩ := own_val hr.2.2.1
  rw [hh] at c7
  clear c0 c1 c2 c4 c6
  go_enter Tryz.func134, Tryz.ntmps134
  go_wp2
  go_region
  go_wp2_with fail
  go_region_with (go_at_call 137; refine (stopFits_any _ _ _ _ _ _ _).mono ?_; rintro e1 w1 ⟨rfl, hb1⟩)
  all_goals
    obtain ⟨hw1, hz, hbox⟩ := box_facts (w := w) (cs := #[.int .i64 a, .int .i64 b, .int .i64 c, .int .i64 d, .int .i64 e]) (t := 62) hb1 rfl rfl rfl rfl
    clear hb1 hbox
    have HW := hide hw1
    clear hw1
    go_wp2
    go_ret
    exact rd_left_same hr HW.out (by unfold rdStop; rw [if_neg (by simp [hh]), if_neg (by omega), if_neg (by simp [hok])])

set_option maxRecDepth 100000 in
set_option maxHeartbeats 1000000 in
theorem stop_many (B rb cap : Nat) (ao : Option Addr) (r : Rd) (vs vr : Value) (x : Rd × Int) (w : World) (hr : RdAt w B rb r vs vr) (hh : r.head = true) (hlen : 7 ≤ r.stops.length) (hlm : r.stops.length ≤ 1000000) (hx : x = (r, 3)) :
    Calls Tryz.prog 134 #[.pointer (some ⟨rb, 0, none⟩), .slice ao 5 cap] w (RdLeft w B rb x) := by
  obtain ⟨c0, c1, c2, c3, c4, c5, c6, c7, hfz, hrl⟩ := rd_cells hr
  obtain ⟨aos, caps, rfl, _, _⟩ := own_val hr.2.2.1
  rw [hh] at c7
  clear c0 c1 c2 c4 c6
  go_enter Tryz.func134, Tryz.ntmps134
  go_wp2
  go_ret
  exact rd_left_same hr (Below.refl _ _) hx

set_option maxRecDepth 100000 in
set_option maxHeartbeats 1000000 in
theorem stop_bad (B rb n cap : Nat) (ao : Option Addr) (r : Rd) (vs vr : Value) (x : Rd × Int) (w : World) (hr : RdAt w B rb r vs vr) (hx : x = (r, 2)) (hbad : r.head = false ∨ n ≠ 5) :
    Calls Tryz.prog 134 #[.pointer (some ⟨rb, 0, none⟩), .slice ao n cap] w (RdLeft w B rb x) := by
  obtain ⟨c0, c1, c2, c3, c4, c5, c6, c7, hfz, hrl⟩ := rd_cells hr
  clear c0 c1 c2 c3 c4 c5 c6
  cases hh : r.head
  · rw [hh] at c7
    go_enter Tryz.func134, Tryz.ntmps134
    go_wp2
    go_ret
    exact rd_left_same hr (Below.refl _ _) hx
  · rw [hh] at c7
    have hn : ((n : Int) != 5) = true := by
      rw [bne_iff_ne]; rcases hbad with h | h
      · rw [hh] at h; cases h
      · omega
    go_enter Tryz.func134, Tryz.ntmps134
    go_wp2
    go_ret
    exact rd_left_same hr (Below.refl _ _) hx
end Go.Proofs.YtebinaopncclgabGreatDoor
namespace Go.Proofs.YtebinaopncclgabGreatDoor
open Go.RowKit Go.IntWalk

set_option maxRecDepth 100000 in
set_option maxHeartbeats 1000000 in
theorem road_out (B rb g cap : Nat) (r : Rd) (vs vr : Value) (a b c : Int) (w : World) (hr : RdAt w B rb r vs vr) (hh : r.head = true) (hlen : r.roads.length < 40) (hok : roadOk a b c r.nodes = false)
    (hg : g < w.heap.size) (h0 : w.cell? ⟨g, 0, none⟩ = some (.int .i64 a)) (h1 : w.cell? ⟨g, 1, none⟩ = some (.int .i64 b)) (h2 : w.cell? ⟨g, 2, none⟩ = some (.int .i64 c)) :
    Calls Tryz.prog 135 #[.pointer (some ⟨rb, 0, none⟩), .slice (some ⟨g, 0, none⟩) 3 cap] w (RdLeft w B rb (rdRoad r a b c)) := by
  obtain ⟨c0, c1, c2, c3, c4, c5, c6, c7, hfz, hrl⟩ := rd_cells hr
  obtain ⟨aos, caps, rfl, _, _⟩ := own_val hr.2.2.2
  rw [hh] at c7
  clear c0 c1 c2 c4 c5
  go_enter Tryz.func135, Tryz.ntmps135
  go_wp2
  go_region
  go_wp2_with fail
  go_region_with (go_at_call 138; refine (roadFits_any _ _ _ _ _).mono ?_; rintro e1 w1 ⟨rfl, hb1⟩)
  all_goals
    obtain ⟨hw1, hz, hbox⟩ := box_facts (w := w) (cs := #[.int .i64 a, .int .i64 b, .int .i64 c]) (t := 64) hb1 rfl rfl rfl rfl
    clear hb1 hbox
    have HW := hide hw1
    clear hw1
    go_wp2
    go_ret
    exact rd_left_same hr HW.out (by unfold rdRoad; rw [if_neg (by simp [hh]), if_neg (by omega), if_neg (by simp [hok])])

set_option maxRecDepth 100000 in
set_option maxHeartbeats 1000000 in
theorem road_many (B rb cap : Nat) (ao : Option Addr) (r : Rd) (vs vr : Value) (x : Rd × Int) (w : World) (hr : RdAt w B rb r vs vr) (hh : r.head = true) (hlen : 40 ≤ r.roads.length) (hlm : r.roads.length ≤ 1000000) (hx : x = (r, 3)) :
    Calls Tryz.prog 135 #[.pointer (some ⟨rb, 0, none⟩), .slice ao 3 cap] w (RdLeft w B rb x) := by
  obtain ⟨c0, c1, c2, c3, c4, c5, c6, c7, hfz, hrl⟩ := rd_cells hr
  obtain ⟨aos, caps, rfl, _, _⟩ := own_val hr.2.2.2
  rw [hh] at c7
  clear c0 c1 c2 c4 c5
  go_enter Tryz.func135, Tryz.ntmps135
  go_wp2
  go_ret
  exact rd_left_same hr (Below.refl _ _) hx

set_option maxRecDepth 100000 in
set_option maxHeartbeats 1000000 in
theorem road_bad (B rb n cap : Nat) (ao : Option Addr) (r : Rd) (vs vr : Value) (x : Rd × Int) (w : World) (hr : RdAt w B rb r vs vr) (hx : x = (r, 2)) (hbad : r.head = false ∨ n ≠ 3) :
    Calls Tryz.prog 135 #[.pointer (some ⟨rb, 0, none⟩), .slice ao n cap] w (RdLeft w B rb x) := by
  obtain ⟨c0, c1, c2, c3, c4, c5, c6, c7, hfz, hrl⟩ := rd_cells hr
  clear c0 c1 c2 c3 c4 c5 c6
  cases hh : r.head
  · rw [hh] at c7
    go_enter Tryz.func135, Tryz.ntmps135
    go_wp2
    go_ret
    exact rd_left_same hr (Below.refl _ _) hx
  · rw [hh] at c7
    have hn : ((n : Int) != 3) = true := by
      rw [bne_iff_ne]; rcases hbad with h | h
      · rw [hh] at h; cases h
      · omega
    go_enter Tryz.func135, Tryz.ntmps135
    go_wp2
    go_ret
    exact rd_left_same hr (Below.refl _ _) hx
end Go.Proofs.YtebinaopncclgabGreatDoor
namespace Go.Proofs.YtebinaopncclgabGreatDoor
open Go.RowKit Go.IntWalk

def RdFine (r : Rd) : Prop := r.stops.length ≤ 7 ∧ r.roads.length ≤ 40

/- a list of the call's own numbers, as the methods want it -/
theorem own_ints {w : World} {B n : Nat} {v : Value} {zs : List Int} (h : w.ownsRow B 3 1 v n (ints zs)) (hn : zs.length = n) (hne : v ≠ .slice none 0 0) :
    ∃ g cap, v = .slice (some ⟨g, 0, none⟩) n cap ∧ g < w.heap.size ∧ ∀ i, i < n → w.cell? ⟨g, i, none⟩ = some (.int .i64 (zs.getD i 0)) := by
  rcases h.2 with ⟨h0, _⟩ | ⟨g, cap, cur, rfl, _, hg, _⟩
  · exact absurd h0 hne
  · refine ⟨g, cap, rfl, (Array.getElem?_eq_some_iff.1 hg).1, fun i hi => ?_⟩
    rw [h.cellAt i (by omega)]
    simp [ints, show i < zs.length by omega]

theorem depot_all (B rb n : Nat) (r : Rd) (vs vr v : Value) (zs : List Int) (B' : Nat) (w : World) (hr : RdAt w B rb r vs vr) (hn : zs.length = n) (hown : w.ownsRow B' 3 1 v n (ints zs)) (hne : v ≠ .slice none 0 0) :
    Calls Tryz.prog 133 #[.pointer (some ⟨rb, 0, none⟩), v] w (RdLeft w B rb (rdVals r [68] zs)) := by
  obtain ⟨g, cap, rfl, hg, hc⟩ := own_ints hown hn hne
  by_cases h5 : n = 5
  · subst h5
    match zs, hn with
    | [a, b, c, d, e], _ =>
      have hx : rdVals r [68] [a, b, c, d, e] = rdDepot r a b c d e := by simp [rdVals]
      rw [hx]
      cases hh : r.head
      · cases hok : headOk a b c d e
        · exact depot_out B rb g cap r vs vr a b c d e w hr hh hok hg (hc 0 (by omega)) (hc 1 (by omega)) (hc 2 (by omega)) (hc 3 (by omega)) (hc 4 (by omega))
        · exact depot_in B rb g cap r vs vr a b c d e w hr hh hok hg (hc 0 (by omega)) (hc 1 (by omega)) (hc 2 (by omega)) (hc 3 (by omega)) (hc 4 (by omega))
      · exact depot_bad B rb 5 cap _ r vs vr _ w hr (by simp [rdDepot, hh]) (Or.inl hh)
  · refine depot_bad B rb n cap _ r vs vr _ w hr ?_ (Or.inr h5)
    unfold rdVals
    rw [if_pos rfl]
    split
    · simp at hn; omega
    · rfl

theorem stop_all (B rb n : Nat) (r : Rd) (vs vr v : Value) (zs : List Int) (B' : Nat) (w : World) (hr : RdAt w B rb r vs vr) (hf : RdFine r) (hn : zs.length = n) (hown : w.ownsRow B' 3 1 v n (ints zs)) (hne : v ≠ .slice none 0 0) :
    Calls Tryz.prog 134 #[.pointer (some ⟨rb, 0, none⟩), v] w (RdLeft w B rb (rdVals r [83] zs)) := by
  obtain ⟨g, cap, rfl, hg, hc⟩ := own_ints hown hn hne
  have hfl := hf.1
  by_cases h5 : n = 5
  · subst h5
    match zs, hn with
    | [a, b, c, d, e], _ =>
      have hx : rdVals r [83] [a, b, c, d, e] = rdStop r a b c d e := by simp [rdVals]
      rw [hx]
      cases hh : r.head
      · exact stop_bad B rb 5 cap _ r vs vr _ w hr (by simp [rdStop, hh]) (Or.inl hh)
      · by_cases hl : 7 ≤ r.stops.length
        · exact stop_many B rb cap _ r vs vr _ w hr hh hl (by omega) (by simp [rdStop, hh, hl])
        · cases hok : stopOk a b c d e r.nodes
          · exact stop_out B rb g cap r vs vr a b c d e w hr hh (by omega) hok hg (hc 0 (by omega)) (hc 1 (by omega)) (hc 2 (by omega)) (hc 3 (by omega)) (hc 4 (by omega))
          · exact stop_in B rb g cap r vs vr a b c d e w hr hh (by omega) hok hg (hc 0 (by omega)) (hc 1 (by omega)) (hc 2 (by omega)) (hc 3 (by omega)) (hc 4 (by omega))
  · refine stop_bad B rb n cap _ r vs vr _ w hr ?_ (Or.inr h5)
    unfold rdVals
    rw [if_neg (by decide), if_pos rfl]
    split
    · simp at hn; omega
    · rfl

theorem road_all (B rb n : Nat) (r : Rd) (vs vr v : Value) (zs : List Int) (B' : Nat) (w : World) (hr : RdAt w B rb r vs vr) (hf : RdFine r) (hn : zs.length = n) (hown : w.ownsRow B' 3 1 v n (ints zs)) (hne : v ≠ .slice none 0 0) :
    Calls Tryz.prog 135 #[.pointer (some ⟨rb, 0, none⟩), v] w (RdLeft w B rb (rdVals r [82] zs)) := by
  obtain ⟨g, cap, rfl, hg, hc⟩ := own_ints hown hn hne
  have hfl := hf.2
  by_cases h5 : n = 3
  · subst h5
    match zs, hn with
    | [a, b, c], _ =>
      have hx : rdVals r [82] [a, b, c] = rdRoad r a b c := by simp [rdVals]
      rw [hx]
      cases hh : r.head
      · exact road_bad B rb 3 cap _ r vs vr _ w hr (by simp [rdRoad, hh]) (Or.inl hh)
      · by_cases hl : 40 ≤ r.roads.length
        · exact road_many B rb cap _ r vs vr _ w hr hh hl (by omega) (by simp [rdRoad, hh, hl])
        · cases hok : roadOk a b c r.nodes
          · exact road_out B rb g cap r vs vr a b c w hr hh (by omega) hok hg (hc 0 (by omega)) (hc 1 (by omega)) (hc 2 (by omega))
          · exact road_in B rb g cap r vs vr a b c w hr hh (by omega) hok hg (hc 0 (by omega)) (hc 1 (by omega)) (hc 2 (by omega))
  · refine road_bad B rb n cap _ r vs vr _ w hr ?_ (Or.inr h5)
    unfold rdVals
    rw [if_neg (by decide), if_neg (by decide), if_pos rfl]
    split
    · simp at hn; omega
    · rfl

theorem left_trans {w w2 w3 : World} {B rb : Nat} {r : Rd} {vs vr : Value} {x : Rd × Int} {e : Ending} (hr : RdAt w B rb r vs vr) (hb : Below w.heap.size w w2) (h : RdLeft w2 B rb x e w3) : RdLeft w B rb x e w3 := by
  obtain ⟨vs', vr', he, hr3, hb3, hk3⟩ := h
  exact ⟨vs', vr', he, hr3, (hb.mono (by have := hr.1; have := (Array.getElem?_eq_some_iff.1 hr.2.1).1; omega)).trans hb3, (Keep.of_below hb).trans hk3⟩

/- what a line without fields, or with none that can be read, leaves -/
theorem spf_bound (l : List UInt8) : ∀ st : List (List UInt8) × List UInt8, (l.foldl stepF st).1.length + (l.foldl stepF st).2.length ≤ st.1.length + st.2.length + l.length ∧
    (∀ m, (∀ f ∈ st.1, f.length ≤ m) → st.2.length ≤ m → (∀ f ∈ (l.foldl stepF st).1, f.length ≤ m + l.length) ∧ (l.foldl stepF st).2.length ≤ m + l.length) := by
  induction l with
  | nil => intro st; exact ⟨by simp, fun m h1 h2 => ⟨by simpa using h1, by simpa using h2⟩⟩
  | cons x t ih =>
    intro st
    obtain ⟨a, b⟩ := ih (stepF st x)
    have hs : (stepF st x).1.length + (stepF st x).2.length ≤ st.1.length + st.2.length + 1 := by
      unfold stepF
      split
      · split
        · simp; omega
        · rename_i h
          have : st.2.length ≠ 0 := by simpa using h
          simp only [List.length_append, List.length_cons, List.length_nil]; omega
      · simp <;> omega
    refine ⟨by simp only [List.foldl_cons, List.length_cons]; omega, fun m h1 h2 => ?_⟩
    have key : (∀ f ∈ (stepF st x).1, f.length ≤ m + 1) ∧ (stepF st x).2.length ≤ m + 1 := by
      unfold stepF
      split
      · split
        · exact ⟨fun f hf => by have := h1 f hf; omega, by simp⟩
        · refine ⟨fun f hf => ?_, by simp⟩
          simp only [List.mem_append, List.mem_singleton] at hf
          rcases hf with hf | rfl
          · have := h1 f hf; omega
          · omega
      · exact ⟨fun f hf => by have := h1 f hf; omega, by simp; omega⟩
    have := b (m + 1) key.1 key.2
    simp only [List.foldl_cons, List.length_cons]
    exact ⟨fun f hf => by have := this.1 f hf; omega, by have := this.2; omega⟩
theorem flds_len_le (l : List UInt8) : ∀ f ∈ flds l, f.length ≤ l.length := by
  have h := (spf_bound l ([], [])).2 0 (by simp) (by simp)
  intro f hf
  unfold flds at hf
  split at hf
  · have := h.1 f hf; omega
  · simp only [List.mem_append, List.mem_singleton] at hf
    rcases hf with hf | rfl
    · have := h.1 f hf; omega
    · have := h.2; unfold spf; omega
theorem flds_count (l : List UInt8) : (flds l).length ≤ l.length := by
  have h := (spf_bound l ([], [])).1
  unfold flds spf
  split
  · simp at h; omega
  · rename_i hne
    have : (l.foldl stepF ([], [])).2.length ≠ 0 := by simpa [spf] using hne
    simp at h ⊢; omega

set_option maxRecDepth 100000 in
set_option maxHeartbeats 1000000 in
theorem rline_any (B rb : Nat) (s : ByteArray) (r : Rd) (vs vr : Value) (w : World) (hr : RdAt w B rb r vs vr) (hf : RdFine r) (hs : s.size ≤ 2000) :
    Calls Tryz.prog 80 #[.pointer (some ⟨rb, 0, none⟩), .string s] w (RdLeft w B rb (rdLine r s.data.toList)) := by
  cases hfl : flds s.data.toList with
  | nil =>
    have hx : rdLine r s.data.toList = (r, 0) := by simp [rdLine, hfl]
    have HX := hide hx
    clear hx
    have hcon := fields_any s w (by omega)
    rw [hfl] at hcon
    have HC := hide hcon
    clear hcon hfl
    go_enter Tryz.func80, Tryz.ntmps80
    go_wp2_with fail
    refine HC.out.mono ?_
    rintro e1 w1 ⟨v, rfl, hown, hbel⟩
    obtain ⟨ao, cap, rfl, _, _⟩ := own_val hown
    go_wp2
    go_ret
    exact rd_left_same hr hbel HX.out
  | cons f fs =>
    have hcon := fields_any s w (by omega)
    rw [hfl] at hcon
    have HC := hide hcon
    clear hcon
    have hlen := flds_count s.data.toList
    have hlf := flds_len_le s.data.toList
    rw [hfl] at hlen hlf
    have hn : fs.length ≤ 2000 := by simp at hlen; omega
    have HLF := hide hlf
    have hx : rdLine r s.data.toList = if fs.all numOk = true then rdVals r f (fs.map numV) else (r, 2) := by simp only [rdLine, hfl]
    have HX := hide hx
    clear hlen hlf hx hfl
    go_enter Tryz.func80, Tryz.ntmps80
    go_wp2_with fail
    refine HC.out.mono ?_
    rintro e1 w1 ⟨v, rfl, hown, hbel⟩
    obtain ⟨g, cap, cur, rfl, _, hg, hcap⟩ := own_shape hown (by simp)
    have hgl : g < w1.heap.size := (Array.getElem?_eq_some_iff.1 hg).1
    have hcell : w1.cell? ⟨g, 0, none⟩ = some (.string ⟨f.toArray⟩) := by rw [hown.cellAt 0 (by simp)]; rfl
    clear hg HC
    simp only [List.length_cons] at hcap
    have HO := hide hown
    have HB := hide hbel
    clear hown hbel
    have hcell' : ∀ i, i < fs.length → w1.cell? ⟨g, 1 + i, none⟩ = some (.string ⟨(fs.getD i []).toArray⟩) := by
      intro i hi
      rw [HO.out.cellAt (1 + i) (by simp; omega), Nat.add_comm 1 i]
      simp [strs, hi]
    have HC' := hide hcell'
    clear hcell'
    have hnum : ∀ (o c n : Nat), fs.length = n → (∀ t, t < n → w1.cell? ⟨g, o + t, none⟩ = some (.string ⟨(fs.getD t []).toArray⟩)) →
        Calls Tryz.prog 132 #[.slice (some ⟨g, o, none⟩) n c] w1 fun e w' => ∃ v, e = .returned (.tuple #[v, .bool (fs.all numOk)]) ∧ (fs.all numOk = true → w'.ownsRow w1.heap.size 3 1 v fs.length (ints (fs.map numV)) ∧ v ≠ .slice none 0 0) ∧ Below w1.heap.size w1 w' := by
      intro o c n hfn hcc
      subst hfn
      exact numbers_any g o c fs w1 (by omega) (fun l hl => by have := HLF.out l (by simp [hl]); simp at this; omega) hgl hcc
    have HN := hide hnum
    clear hnum
    cases hall : fs.all numOk
    · have HX' : Hid (rdLine r s.data.toList = (r, 2)) := by show _ = _; rw [HX.out, hall]; rfl
      rw [hall] at HN
      clear hall HX
      by_cases h1 : cap = 1
      · subst h1
        go_wp2_with fail
        refine (HN.out 0 _ 0 (by omega) (fun t ht => by omega)).mono ?_
        rintro e2 w2 ⟨v2, rfl, _, hb2⟩
        go_wp2
        go_ret
        exact rd_left_same hr (HB.out.trans (hb2.mono HB.out.size)) HX'.out
      · go_wp2_with fail
        refine (HN.out 1 _ _ rfl HC'.out).mono ?_
        rintro e2 w2 ⟨v2, rfl, _, hb2⟩
        go_wp2
        go_ret
        exact rd_left_same hr (HB.out.trans (hb2.mono HB.out.size)) HX'.out
    · have HX' : Hid (rdLine r s.data.toList = rdVals r f (fs.map numV)) := by show _ = _; rw [HX.out, hall]; rfl
      rw [hall] at HN
      clear hall HX
      by_cases h1 : cap = 1
      · subst h1
        go_wp2_with fail
        refine (HN.out 0 _ 0 (by omega) (fun t ht => by omega)).mono ?_
        rintro e2 w2 ⟨v2, rfl, hok2, hb2⟩
        have HO2 := hide (hok2 trivial)
        clear hok2
        obtain ⟨ao2, cap2, rfl, _, _⟩ := own_val HO2.out.1
        have hcell2 : w2.cell? ⟨g, 0, none⟩ = some (.string ⟨f.toArray⟩) := (hb2.cell (by exact hgl)).trans hcell
        have HR2 := hide (rd_same hr (HB.out.trans (hb2.mono HB.out.size)))
        have HB2 := hide (HB.out.trans (hb2.mono HB.out.size))
        clear hb2 hcell
        by_cases f1 : f = [68]
        · have e1 : (f == [68]) = true := by rw [f1]; rfl
          have HF := hide f1
          clear f1
          go_wp2_with fail
          refine (depot_all B rb _ r vs vr _ (fs.map numV) _ _ HR2.out (by simp) HO2.out.1 HO2.out.2).mono ?_
          rintro e3 w3 ⟨vs', vr', rfl, hr3, hb3, hk3⟩
          go_wp2
          go_ret
          rw [HX'.out, HF.out]
          exact left_trans hr HB2.out ⟨vs', vr', rfl, hr3, hb3, hk3⟩
        · have e1 : (f == [68]) = false := beq_eq_false_iff_ne.2 f1
          have HF1 := hide f1
          clear f1
          by_cases f2 : f = [83]
          · have e2 : (f == [83]) = true := by rw [f2]; rfl
            have HF := hide f2
            clear f2
            go_wp2_with fail
            refine (stop_all B rb _ r vs vr _ (fs.map numV) _ _ HR2.out hf (by simp) HO2.out.1 HO2.out.2).mono ?_
            rintro e3 w3 ⟨vs', vr', rfl, hr3, hb3, hk3⟩
            go_wp2
            go_ret
            rw [HX'.out, HF.out]
            exact left_trans hr HB2.out ⟨vs', vr', rfl, hr3, hb3, hk3⟩
          · have e2 : (f == [83]) = false := beq_eq_false_iff_ne.2 f2
            have HF2 := hide f2
            clear f2
            by_cases f3 : f = [82]
            · have e3 : (f == [82]) = true := by rw [f3]; rfl
              have HF := hide f3
              clear f3
              go_wp2_with fail
              refine (road_all B rb _ r vs vr _ (fs.map numV) _ _ HR2.out hf (by simp) HO2.out.1 HO2.out.2).mono ?_
              rintro e3 w3 ⟨vs', vr', rfl, hr3, hb3, hk3⟩
              go_wp2
              go_ret
              rw [HX'.out, HF.out]
              exact left_trans hr HB2.out ⟨vs', vr', rfl, hr3, hb3, hk3⟩
            · have e3 : (f == [82]) = false := beq_eq_false_iff_ne.2 f3
              have HF3 := hide f3
              clear f3
              go_wp2
              go_ret
              exact rd_left_same hr HB2.out (by rw [HX'.out]; unfold rdVals; rw [if_neg HF1.out, if_neg HF2.out, if_neg HF3.out])
      · go_wp2_with fail
        refine (HN.out 1 _ _ rfl HC'.out).mono ?_
        rintro e2 w2 ⟨v2, rfl, hok2, hb2⟩
        have HO2 := hide (hok2 trivial)
        clear hok2
        obtain ⟨ao2, cap2, rfl, _, _⟩ := own_val HO2.out.1
        have hcell2 : w2.cell? ⟨g, 0, none⟩ = some (.string ⟨f.toArray⟩) := (hb2.cell (by exact hgl)).trans hcell
        have HR2 := hide (rd_same hr (HB.out.trans (hb2.mono HB.out.size)))
        have HB2 := hide (HB.out.trans (hb2.mono HB.out.size))
        clear hb2 hcell
        by_cases f1 : f = [68]
        · have e1 : (f == [68]) = true := by rw [f1]; rfl
          have HF := hide f1
          clear f1
          go_wp2_with fail
          refine (depot_all B rb _ r vs vr _ (fs.map numV) _ _ HR2.out (by simp) HO2.out.1 HO2.out.2).mono ?_
          rintro e3 w3 ⟨vs', vr', rfl, hr3, hb3, hk3⟩
          go_wp2
          go_ret
          rw [HX'.out, HF.out]
          exact left_trans hr HB2.out ⟨vs', vr', rfl, hr3, hb3, hk3⟩
        · have e1 : (f == [68]) = false := beq_eq_false_iff_ne.2 f1
          have HF1 := hide f1
          clear f1
          by_cases f2 : f = [83]
          · have e2 : (f == [83]) = true := by rw [f2]; rfl
            have HF := hide f2
            clear f2
            go_wp2_with fail
            refine (stop_all B rb _ r vs vr _ (fs.map numV) _ _ HR2.out hf (by simp) HO2.out.1 HO2.out.2).mono ?_
            rintro e3 w3 ⟨vs', vr', rfl, hr3, hb3, hk3⟩
            go_wp2
            go_ret
            rw [HX'.out, HF.out]
            exact left_trans hr HB2.out ⟨vs', vr', rfl, hr3, hb3, hk3⟩
          · have e2 : (f == [83]) = false := beq_eq_false_iff_ne.2 f2
            have HF2 := hide f2
            clear f2
            by_cases f3 : f = [82]
            · have e3 : (f == [82]) = true := by rw [f3]; rfl
              have HF := hide f3
              clear f3
              go_wp2_with fail
              refine (road_all B rb _ r vs vr _ (fs.map numV) _ _ HR2.out hf (by simp) HO2.out.1 HO2.out.2).mono ?_
              rintro e3 w3 ⟨vs', vr', rfl, hr3, hb3, hk3⟩
              go_wp2
              go_ret
              rw [HX'.out, HF.out]
              exact left_trans hr HB2.out ⟨vs', vr', rfl, hr3, hb3, hk3⟩
            · have e3 : (f == [82]) = false := beq_eq_false_iff_ne.2 f3
              have HF3 := hide f3
              clear f3
              go_wp2
              go_ret
              exact rd_left_same hr HB2.out (by rw [HX'.out]; unfold rdVals; rw [if_neg HF1.out, if_neg HF2.out, if_neg HF3.out])
end Go.Proofs.YtebinaopncclgabGreatDoor
namespace Go.Proofs.YtebinaopncclgabGreatDoor
open Go.RowKit Go.IntWalk

/- what Parse leaves: the numbers, the two lists in memory of its own -/
def inst (r : Rd) (vs vr : Value) : Value := .agg #[.int .i64 r.vans, .int .i64 r.load, .int .i64 r.close, .int .i64 r.nodes, .int .i64 r.home, vs, vr]
def Parsed (w : World) (x : Rd × Nat × Int) (e : Ending) (w' : World) : Prop :=
  ∃ vs vr, e = .returned (.tuple #[inst x.1 vs vr, .int .i64 x.2.1, .int .i64 x.2.2]) ∧ w'.ownsRow w.heap.size 62 5 vs x.1.stops.length (ints x.1.stops.flatten) ∧ w'.ownsRow w.heap.size 64 3 vr x.1.roads.length (ints x.1.roads.flatten) ∧ Below w.heap.size w w'

def zero7 : Array Value := #[.int .i64 0, .int .i64 0, .int .i64 0, .int .i64 0, .int .i64 0, .slice none 0 0, .slice none 0 0]
theorem box7 {w : World} {b : Nat} (h : w.heap[b]? = some (.cells zero7 28 (0, 0))) :
    w.cell? ⟨b, 0, none⟩ = some (.int .i64 0) ∧ w.cell? ⟨b, 1, none⟩ = some (.int .i64 0) ∧ w.cell? ⟨b, 2, none⟩ = some (.int .i64 0) ∧ w.cell? ⟨b, 3, none⟩ = some (.int .i64 0) ∧ w.cell? ⟨b, 4, none⟩ = some (.int .i64 0) ∧ w.cell? ⟨b, 5, none⟩ = some (.slice none 0 0) ∧ w.cell? ⟨b, 6, none⟩ = some (.slice none 0 0) ∧ ∀ o, w.frozen? ⟨b, o, none⟩ = false := by
  refine ⟨?_, ?_, ?_, ?_, ?_, ?_, ?_, fun o => frozen_of_row w b o _ _ h⟩ <;> (rw [cell_of_row w b _ _ _ _ h]; rfl)

theorem spl_bound (c : UInt8) (l : List UInt8) : ∀ st : List (List UInt8) × List UInt8, (l.foldl (stepL c) st).1.length ≤ st.1.length + l.length ∧
    (∀ m, (∀ f ∈ st.1, f.length ≤ m) → st.2.length ≤ m → (∀ f ∈ (l.foldl (stepL c) st).1, f.length ≤ m + l.length) ∧ (l.foldl (stepL c) st).2.length ≤ m + l.length) := by
  induction l with
  | nil => intro st; exact ⟨by simp, fun m h1 h2 => ⟨by simpa using h1, by simpa using h2⟩⟩
  | cons x t ih =>
    intro st
    obtain ⟨a, b⟩ := ih (stepL c st x)
    have hs : (stepL c st x).1.length ≤ st.1.length + 1 := by
      unfold stepL
      split <;> simp
    refine ⟨by simp only [List.foldl_cons, List.length_cons]; omega, fun m h1 h2 => ?_⟩
    have key : (∀ f ∈ (stepL c st x).1, f.length ≤ m + 1) ∧ (stepL c st x).2.length ≤ m + 1 := by
      unfold stepL
      split
      · refine ⟨fun f hf => ?_, by simp⟩
        simp only [List.mem_append, List.mem_singleton] at hf
        rcases hf with hf | rfl
        · have := h1 f hf; omega
        · omega
      · exact ⟨fun f hf => by have := h1 f hf; omega, by simp; omega⟩
    have := b (m + 1) key.1 key.2
    simp only [List.foldl_cons, List.length_cons]
    exact ⟨fun f hf => by have := this.1 f hf; omega, by have := this.2; omega⟩
theorem splitB_len (c : UInt8) (l : List UInt8) : ∀ f ∈ splitB c l, f.length ≤ l.length := by
  have h := (spl_bound c l ([], [])).2 0 (by simp) (by simp)
  intro f hf
  unfold splitB at hf
  simp only [List.mem_append, List.mem_singleton] at hf
  rcases hf with hf | rfl
  · have := h.1 f hf; omega
  · have := h.2; unfold spl; omega
theorem splitB_count (c : UInt8) (l : List UInt8) : (splitB c l).length ≤ l.length + 1 := by
  have h := (spl_bound c l ([], [])).1
  unfold splitB spl
  simp at h ⊢; omega

/- a line more leaves the counts within their bounds -/
theorem rdVals_fine {r : Rd} (h : RdFine r) (f : List UInt8) (vs : List Int) : RdFine (rdVals r f vs).1 := by
  have hd : ∀ a b c d e, RdFine (rdDepot r a b c d e).1 := by
    intro a b c d e; unfold rdDepot; split
    · exact h
    · split
      · exact ⟨by simp, by simp⟩
      · exact h
  have hst : ∀ a b c d e, RdFine (rdStop r a b c d e).1 := by
    intro a b c d e; unfold rdStop; split
    · exact h
    · split
      · exact h
      · split
        · exact ⟨by simp; omega, h.2⟩
        · exact h
  have hrd : ∀ a b c, RdFine (rdRoad r a b c).1 := by
    intro a b c; unfold rdRoad; split
    · exact h
    · split
      · exact h
      · split
        · exact ⟨h.1, by simp; omega⟩
        · exact h
  unfold rdVals
  split
  · split
    · exact hd _ _ _ _ _
    · exact h
  · split
    · split
      · exact hst _ _ _ _ _
      · exact h
    · split
      · split
        · exact hrd _ _ _
        · exact h
      · exact h
theorem rdLine_fine {r : Rd} (h : RdFine r) (l : List UInt8) : RdFine (rdLine r l).1 := by
  unfold rdLine
  split
  · exact h
  · split
    · exact rdVals_fine h _ _
    · exact h

theorem rdGo_step {r : Rd} {k : Nat} {ls : List (List UInt8)} (h : k < ls.length) (he : (rdLine r ls[k]).2 = 0) : rdGo r k (ls.drop k) = rdGo (rdLine r ls[k]).1 (k + 1) (ls.drop (k + 1)) := by
  rw [List.drop_eq_getElem_cons h]; show (if _ then _ else _) = _; rw [if_pos he]
theorem rdGo_stop {r : Rd} {k : Nat} {ls : List (List UInt8)} (h : k < ls.length) (he : (rdLine r ls[k]).2 ≠ 0) : rdGo r k (ls.drop k) = (Rd0, k + 1, (rdLine r ls[k]).2) := by
  rw [List.drop_eq_getElem_cons h]; show (if _ then _ else _) = _; rw [if_neg he]
theorem rdGo_end {r : Rd} {k : Nat} {ls : List (List UInt8)} (h : ls.length ≤ k) : rdGo r k (ls.drop k) = (r, 0, 0) := by
  rw [List.drop_eq_nil_of_le h]; rfl
theorem parse_fault {l : List UInt8} {k : Nat} {e : Int} (hl : l.length ≤ 2000) (h : rdGo Rd0 0 (splitB 10 l) = (Rd0, k, e)) (he : e ≠ 0) : parseS l = (Rd0, k, e) := by
  unfold parseS; rw [if_neg (by omega), h, if_neg he]
theorem parse_ok {l : List UInt8} {r : Rd} (hl : l.length ≤ 2000) (h : rdGo Rd0 0 (splitB 10 l) = (r, 0, 0)) (hh : r.head = true) : parseS l = (r, 0, 0) := by
  unfold parseS; rw [if_neg (by omega), h, if_pos rfl, if_pos hh]
theorem parse_none {l : List UInt8} {r : Rd} (hl : l.length ≤ 2000) (h : rdGo Rd0 0 (splitB 10 l) = (r, 0, 0)) (hh : r.head = false) : parseS l = (Rd0, (splitB 10 l).length, 2) := by
  unfold parseS; rw [if_neg (by omega), h, if_pos rfl, if_neg (by simp [hh])]

def RdIs (w wr : World) (r : Rd) (vs vr : Value) : Prop := RdAt wr w.heap.size (w.heap.size + 1) r vs vr ∧ wr.heap[w.heap.size]? = some (.cells zero7 28 (0, 0)) ∧ Below w.heap.size w wr
theorem rd_next {w wr w2 : World} {r : Rd} {vs vr : Value} {x : Rd × Int} {e : Ending} {B n : Nat} {v : Value} {xs : List Value} (h : RdIs w wr r vs vr) (hl : RdLeft wr w.heap.size (w.heap.size + 1) x e w2) (hv : wr.ownsRow B 9 1 v n xs) :
    ∃ vs' vr', RdIs w w2 x.1 vs' vr' ∧ w2.ownsRow B 9 1 v n xs := by
  obtain ⟨vs', vr', _, h1, h2, h3⟩ := hl
  exact ⟨vs', vr', ⟨h1, h3 _ _ _ _ h.2.1 (by decide), h.2.2.trans h2⟩, own_keep hv h3 (by decide)⟩
theorem parsed_none {w w' : World} {k : Nat} {e : Int} {x : Rd × Nat × Int} (hx : x = (Rd0, k, e)) (h : Below w.heap.size w w') : Parsed w x (.returned (.tuple #[.agg zero7, .int .i64 k, .int .i64 e])) w' := by
  subst hx
  exact ⟨.slice none 0 0, .slice none 0 0, rfl, World.ownsRow_nil _ _ _ _, World.ownsRow_nil _ _ _ _, h⟩
theorem below_put7 (B b : Nat) (w : World) (hB : B ≤ b) (u0 u1 u2 u3 u4 u5 u6 : Value) : Below B w (((((((w.setCell ⟨b, 0, none⟩ u0).setCell ⟨b, 1, none⟩ u1).setCell ⟨b, 2, none⟩ u2).setCell ⟨b, 3, none⟩ u3).setCell ⟨b, 4, none⟩ u4).setCell ⟨b, 5, none⟩ u5).setCell ⟨b, 6, none⟩ u6) :=
  (((((((Below.refl B w).setCell hB u0).setCell hB u1).setCell hB u2).setCell hB u3).setCell hB u4).setCell hB u5).setCell hB u6

theorem own_put7 {w : World} {b : Nat} {cs : Array Value} {t : TypeId} (hb : w.heap[b]? = some (.cells cs t (0, 0))) {B n size : Nat} {e : TypeId} {v : Value} {xs : List Value} (h : w.ownsRow B e size v n xs) (he : e ≠ t) {u0 u1 u2 u3 u4 u5 u6 : Value} :
    (((((((w.setCell ⟨b, 0, none⟩ u0).setCell ⟨b, 1, none⟩ u1).setCell ⟨b, 2, none⟩ u2).setCell ⟨b, 3, none⟩ u3).setCell ⟨b, 4, none⟩ u4).setCell ⟨b, 5, none⟩ u5).setCell ⟨b, 6, none⟩ u6).ownsRow B e size v n xs := by
  have h1 := own_setCell (o := 0) h hb he u0
  have k1 := heap_setCell_same w b 0 _ _ u0 hb
  have h2 := own_setCell (o := 1) h1 k1 he u1
  have k2 := heap_setCell_same _ b 1 _ _ u1 k1
  have h3 := own_setCell (o := 2) h2 k2 he u2
  have k3 := heap_setCell_same _ b 2 _ _ u2 k2
  have h4 := own_setCell (o := 3) h3 k3 he u3
  have k4 := heap_setCell_same _ b 3 _ _ u3 k3
  have h5 := own_setCell (o := 4) h4 k4 he u4
  have k5 := heap_setCell_same _ b 4 _ _ u4 k4
  have h6 := own_setCell (o := 5) h5 k5 he u5
  have k6 := heap_setCell_same _ b 5 _ _ u5 k5
  exact own_setCell (o := 6) h6 k6 he u6

set_option maxRecDepth 100000 in
set_option maxHeartbeats 1000000 in
theorem parse_long (s : ByteArray) (w : World) (hlong : 2000 < s.size) (hs : s.size ≤ maxLen) : Calls Tryz.prog 37 #[.string s] w (Parsed w (parseS s.data.toList)) := by
  unfold maxLen at hs
  have hx : parseS s.data.toList = (Rd0, 0, 1) := by unfold parseS; rw [if_pos (by simpa using hlong)]
  have HX := hide hx
  clear hx
  go_enter Tryz.func37, Tryz.ntmps37
  go_wp2
  refine bodyPost_ret (v := .tuple #[.agg zero7, .int .i64 0, .int .i64 1]) (by simp [results, Tryz.results37, go_sem, zero7]) rfl ?_
  exact parsed_none HX.out (below1 _ _)

set_option maxRecDepth 100000 in
set_option maxHeartbeats 1000000 in
theorem parse_any (s : ByteArray) (w : World) (hsm : s.size ≤ maxLen) : Calls Tryz.prog 37 #[.string s] w (Parsed w (parseS s.data.toList)) := by
  by_cases hlong : 2000 < s.size
  · exact parse_long s w hlong hsm
  · have hs : s.size ≤ 2000 := by omega
    have HLL : Hid (s.data.toList.length ≤ 2000) := by show _ ≤ _; simpa using hs
    obtain ⟨ls, hls⟩ : ∃ ls, ls = splitB 10 s.data.toList := ⟨_, rfl⟩
    have hlen := splitB_len 10 s.data.toList
    have hcnt := splitB_count 10 s.data.toList
    rw [← hls] at hlen hcnt
    have hn : ls.length ≤ 2001 := by have := HLL.out; omega
    have hn1 : 1 ≤ ls.length := by rw [hls]; unfold splitB; simp
    have HL := hide hlen
    have HLS := hide hls
    clear hlen hcnt hsm
    have hcon := lines_any s ((w.alloc (.cells zero7 28)).alloc (.cells (rdCells Rd0 (.slice none 0 0) (.slice none 0 0)) 147)) (by omega)
    rw [← hls] at hcon
    have HC := hide hcon
    clear hcon hls hlong
    go_enter Tryz.func37, Tryz.ntmps37
    go_wp2_with fail
    refine HC.out.mono ?_
    rintro e1 w1 ⟨v, rfl, hown, hbel⟩
    obtain ⟨g, cap, cur, rfl, _, hg, hcap⟩ := own_shape hown (by omega)
    have hgl : g < w1.heap.size := (Array.getElem?_eq_some_iff.1 hg).1
    have hI : RdIs w w1 Rd0 (.slice none 0 0) (.slice none 0 0) := by
      have hb2 := below2 w (.cells zero7 28) (.cells (rdCells Rd0 (.slice none 0 0) (.slice none 0 0)) 147)
      refine ⟨⟨by omega, ?_, World.ownsRow_nil _ _ _ _, World.ownsRow_nil _ _ _ _⟩, ?_, hb2.trans (hbel.mono (by simp; omega))⟩
      · rw [hbel.block _ (by simp)]; have := heap_alloc_new (w.alloc (.cells zero7 28)) (.cells (rdCells Rd0 (.slice none 0 0) (.slice none 0 0)) 147); simpa using this
      · rw [hbel.block _ (by simp; omega), Below.heap_alloc _ _ _ (by simp)]; exact heap_alloc_new w _
    have HI := hide hI
    have HO := hide hown
    clear hI hown hbel hg HC
    go_wp2_with fail
    go_loopw [7] (fun i wr => ∃ (k : Nat) (r : Rd) (vs vr : Value), k ≤ ls.length ∧ i = .int .i64 k ∧ Hid (rdGo Rd0 0 ls = rdGo r k (ls.drop k)) ∧ Hid (RdFine r) ∧ Hid (RdIs w wr r vs vr) ∧ Hid (wr.ownsRow (w.heap.size + 1 + 1) 9 1 (.slice (some ⟨g, 0, none⟩) ls.length cap) ls.length (strs ls))) (fun i _ => ls.length - (intOf i).toNat)
    case atStart => exact ⟨0, Rd0, _, _, Nat.zero_le _, rfl, rfl, ⟨by simp [Rd0], by simp [Rd0]⟩, HI, by have h := HO.out; simp only [World.size_alloc] at h; exact h⟩
    case round =>
      clear HI HO
      obtain ⟨k, r, vs, vr, hk, rfl, HG, HF, HI, HO⟩ := hrel
      by_cases hlt : k < ls.length
      · have hcell : wr.cell? ⟨g, k, none⟩ = some (.string ⟨(ls[k]).toArray⟩) := by
          rw [HO.out.cellAt k (by omega)]; simp [strs, hlt]
        obtain ⟨l, hl⟩ : ∃ l, l = ls[k] := ⟨_, rfl⟩
        rw [← hl] at hcell
        have HLk := hide hl
        have hll : l.length ≤ 2000 := by have h1 := HL.out l (by rw [hl]; exact List.getElem_mem _); have h2 := HLL.out; omega
        clear hl
        have hcon := rline_any w.heap.size (w.heap.size + 1) ⟨l.toArray⟩ r vs vr wr HI.out.1 HF.out (by show l.toArray.size ≤ _; simpa using hll)
        have HC : Hid (Calls Tryz.prog 80 #[.pointer (some ⟨w.heap.size + 1, 0, none⟩), .string ⟨l.toArray⟩] wr (RdLeft wr w.heap.size (w.heap.size + 1) (rdLine r l))) := hcon
        clear hcon
        by_cases he : (rdLine r l).2 = 0
        · have HG' : Hid (rdGo Rd0 0 ls = rdGo (rdLine r l).1 (k + 1) (ls.drop (k + 1))) := by
            show _ = _; rw [HG.out, HLk.out]; exact rdGo_step hlt (by rw [← HLk.out]; exact he)
          have HF' : Hid (RdFine (rdLine r l).1) := rdLine_fine HF.out l
          have HE := hide he
          clear he
          go_wp2_with fail
          refine HC.out.mono ?_
          rintro e2 w2 hleft
          obtain ⟨vs', vr', hI', hO'⟩ := rd_next HI.out hleft HO.out
          obtain ⟨_, _, rfl, _⟩ := hleft
          rw [HE.out]
          have HI' := hide hI'
          have HO' := hide hO'
          clear hI' hO' HI HO hcell
          go_wp2
          go_roundw
          case rel => exact ⟨k + 1, _, vs', vr', by omega, by go_num, HG', HF', HI', HO'⟩
          case measure => simp [intOf]; omega
        · have HX : Hid (parseS s.data.toList = (Rd0, k + 1, (rdLine r l).2)) := by
            refine parse_fault HLL.out ?_ he
            rw [← HLS.out, HG.out, HLk.out]; exact rdGo_stop hlt (by rw [← HLk.out]; exact he)
          have hne : ((rdLine r l).2 != 0) = true := by simp [he]
          clear he
          go_wp2_with fail
          refine HC.out.mono ?_
          rintro e2 w2 hleft
          obtain ⟨vs', vr', hI', hO'⟩ := rd_next HI.out hleft HO.out
          obtain ⟨_, _, rfl, _⟩ := hleft
          obtain ⟨b0, b1, b2, b3, b4, b5, b6, hfz⟩ := box7 hI'.2.1
          have HI' := hide hI'
          clear hI' hO' HI HO hcell
          generalize (rdLine r l).2 = er at *
          go_wp2
          refine bodyPost_ret (v := .tuple #[.agg zero7, .int .i64 ((k + 1 : Nat) : Int), .int .i64 er]) (by simp [results, Tryz.results37, go_sem, zero7, b0, b1, b2, b3, b4, b5, b6]) rfl ?_
          exact parsed_none HX.out (HI'.out.2.2.trans (below_put7 _ _ _ (Nat.le_refl _) _ _ _ _ _ _ _))
      · have hke : k = ls.length := by omega
        subst hke
        have HG' : Hid (rdGo Rd0 0 (splitB 10 s.data.toList) = (r, 0, 0)) := by
          show _ = _; rw [← HLS.out, HG.out]; exact rdGo_end (Nat.le_refl _)
        obtain ⟨b0, b1, b2, b3, b4, b5, b6, hfz⟩ := box7 HI.out.2.1
        obtain ⟨c0, c1, c2, c3, c4, c5, c6, c7, hfr, hrl⟩ := rd_cells HI.out.1
        cases hh : r.head
        · have HX : Hid (parseS s.data.toList = (Rd0, ls.length, 2)) := by show _ = _; rw [parse_none HLL.out HG'.out hh, HLS.out]
          rw [hh] at c7
          clear c0 c1 c2 c3 c4 c5 c6 hfr
          go_wp2
          refine bodyPost_ret (v := .tuple #[.agg zero7, .int .i64 ls.length, .int .i64 2]) (by simp [results, Tryz.results37, go_sem, zero7, b0, b1, b2, b3, b4, b5, b6]) rfl ?_
          exact parsed_none HX.out (HI.out.2.2.trans (below_put7 _ _ _ (Nat.le_refl _) _ _ _ _ _ _ _))
        · have HX : Hid (parseS s.data.toList = (r, 0, 0)) := parse_ok HLL.out HG'.out hh
          rw [hh] at c7
          obtain ⟨aos, caps, rfl, _, _⟩ := own_val HI.out.1.2.2.1
          obtain ⟨aor, capr, rfl, _, _⟩ := own_val HI.out.1.2.2.2
          go_wp2
          rw [HX.out]
          refine bodyPost_ret (v := .tuple #[inst r (.slice aos r.stops.length caps) (.slice aor r.roads.length capr), .int .i64 0, .int .i64 0]) (by simp [results, Tryz.results37, go_sem, inst, b0, b1, b2, b3, b4, b5, b6]) rfl ?_
          exact ⟨_, _, rfl, own_put7 HI.out.2.1 HI.out.1.2.2.1 (by decide), own_put7 HI.out.2.1 HI.out.1.2.2.2 (by decide), HI.out.2.2.trans (below_put7 _ _ _ (Nat.le_refl _) _ _ _ _ _ _ _)⟩
end Go.Proofs.YtebinaopncclgabGreatDoor
