/- Walks: the places of a tree's nodes. -/
import Derived.Test.YtebinaopncclgabGLeaf
import Derived.Test.YtebinaopncclgabSMatch
namespace Go.Proofs.Ytebinaopncclgab
open Go.RowKit Go.IntWalk

def aboveC (P : PathT) : List Value := (P.reverse.map fun q => [Value.int .i64 q.1.1, Value.int .i64 q.1.2]).flatten
structure WalkAt (w0 w : World) (p : Nat) (r : Rd) (cl : Option Int) (P : PathT) (vs vf vf2 : Value) : Prop where
  size : w0.heap.size = p
  below : Below p w0 w
  c0 : w.cell? ⟨p, 0, none⟩ = some (.int .i64 r.vans)
  c1 : w.cell? ⟨p, 1, none⟩ = some (.int .i64 r.load)
  c2 : w.cell? ⟨p, 2, none⟩ = some (.int .i64 r.close)
  c5 : w.cell? ⟨p, 5, none⟩ = some vs
  c7 : w.cell? ⟨p, 7, none⟩ = some vf
  arcs : ArcsAt w p 8 r (tabP P) vf2
  above : ∃ va, w.cell? ⟨p, 74, none⟩ = some va ∧ w.ownsRow (p + 1) 121 2 va P.length (aboveC P)
  c75 : w.cell? ⟨p, 75, none⟩ = some (.bool cl.isSome)
  c76 : w.cell? ⟨p, 76, none⟩ = some (.int .i64 (cl.getD 0))
theorem Try.infoBranch : (Try.prog.info? 121).map (fun i => (i.zero, i.size, i.bytes)) = some (some (.agg #[.int .i64 0, .int .i64 0]), 2, 16) := by kernel_rfl

set_option maxRecDepth 100000 in
set_option maxHeartbeats 4000000 in
theorem enter_no (w0 w : World) (p : Nat) (r : Rd) (cl : Option Int) (P : PathT) (v vs vf : Value) (af : Option Addr) (cf : Nat) (zs : List Int) (hok : RdOk r) (hr : ListR w v zs) (hw : WalkAt w0 w p r cl P vs vf (.slice af (r.stops.length + 1 : Nat) cf)) (hn : ¬ (zs.length = 2 ∧ saidZ r.stops.length (tabP P) (zs.getD 0 0) (zs.getD 1 0) = 0)) :
    Calls Try.prog 47 #[.pointer (some ⟨p, 8, none⟩), v] w fun e w' => e = .returned (.bool false) ∧ Below w.heap.size w w' := by
  have hns := hok.nstops
  obtain ⟨ao, c, rfl, hrr⟩ := hr
  have HW := hid hw
  by_cases h2 : zs.length = 2
  · have hsd : saidZ r.stops.length (tabP P) (zs.getD 0 0) (zs.getD 1 0) ≠ 0 := fun h => hn ⟨h2, h⟩
    obtain ⟨g, hao, hgl, hz0⟩ := hrr 0 (by omega)
    obtain ⟨g', hao', _, hz1⟩ := hrr 1 (by omega)
    subst hao
    cases hao'
    have HS := hid (fun W x y (hW : Below w.heap.size w W) => said_any p 8 r (tabP P) af cf r.stops.length x y W hns (hw.arcs.below hW))
    generalize zs.getD 0 0 = x at *
    generalize zs.getD 1 0 = y at *
    have HSD := hid (fun W (hW : Below w.heap.size w W) => HS.out W x y hW)
    generalize saidZ r.stops.length (tabP P) x y = sd at *
    have b1 : (sd != 0) = true := by simpa using hsd
    rw [h2]
    clear hrr hw hn HS h2 hsd
    go_enter Try.func47, Try.ntmps47
    go_wp2_with fail
    go_region_held3 (fun w' => w'.cell? ⟨g, 0, none⟩ = some (.int .i64 x) ∧ w'.cell? ⟨g, 1, none⟩ = some (.int .i64 y)) (go_keep) (fail)
    obtain ⟨W1, hW1⟩ : ∃ W1, W1 = (w.alloc (.cells #[.int .i64 x, .int .i64 y] 121)).drew := ⟨_, rfl⟩
    rw [← hW1]
    have HB1 : Hid (Below w.heap.size w W1) := by rw [hW1]; exact (below1 w _).drew
    have hbx : W1.heap[w.heap.size]? = some (.cells #[.int .i64 x, .int .i64 y] 121 (0, 0)) := by rw [hW1]; exact heap_alloc_new w _
    have k0 : W1.cell? ⟨w.heap.size, 0, none⟩ = some (.int .i64 x) := cell_of_row W1 _ 0 _ _ _ hbx
    have k1 : W1.cell? ⟨w.heap.size, 1, none⟩ = some (.int .i64 y) := cell_of_row W1 _ 1 _ _ _ hbx
    have kl : w.heap.size < W1.heap.size := (Array.getElem?_eq_some_iff.1 hbx).1
    have HCW : Hid (∀ W, Below W1.heap.size W1 W → Calls Try.prog 61 #[.pointer (some ⟨p, 8, none⟩), .int .i64 x, .int .i64 y] W fun e w' => e = .returned (.int .i64 sd) ∧ w'.cell? ⟨w.heap.size, 0, none⟩ = some (.int .i64 x) ∧ w'.cell? ⟨w.heap.size, 1, none⟩ = some (.int .i64 y) ∧ Hid (Below w.heap.size w w')) := fun W hW => by
      refine (HSD.out W (HB1.out.trans (hW.mono HB1.out.size))).mono ?_
      rintro e w' ⟨h1, h2⟩
      have h3 : Below W1.heap.size W1 w' := hW.trans (h2.mono hW.size)
      exact ⟨h1, (h3.cell (by exact kl)).trans k0, (h3.cell (by exact kl)).trans k1, HB1.out.trans (h3.mono HB1.out.size)⟩
    clear hW1 hbx hz0 hz1 HSD
    go_wp2_with fail
    go_region_held3 (fun w' => w'.cell? ⟨w.heap.size, 0, none⟩ = some (.int .i64 x) ∧ w'.cell? ⟨w.heap.size, 1, none⟩ = some (.int .i64 y)) (go_keep) (first | (go_at_call 61; refine (HCW.out _ (by first | exact Below.refl _ _ | exact (Below.refl _ _).drew)).mono ?_; rintro e3 w3 ⟨rfl, z0, z1, HB3⟩))
    go_wp2
    go_ret
    exact ⟨rfl, by first | exact HB3.out | exact HB3.out.drew⟩
  · have b1 : ((zs.length : Int) != 2) = true := by simp; omega
    clear hw hrr hn h2
    go_enter Try.func47, Try.ntmps47
    go_wp2_with fail
    go_ret
    exact ⟨rfl, Below.refl _ _⟩

theorem kept_p {w X w' : World} {p n size : Nat} {e : TypeId} {o : Obj} {v : Value} {xs : List Value} (hh : X.heap = (w.alloc o).heap) (hp : p < w.heap.size) (ho : w.ownsRow (p + 1) e size v n xs) (hg : X.grownBy w' v.ownBlock) : w'.heap[p]? = w.heap[p]? := by
  have h1 : X.heap[p]? = w.heap[p]? := by rw [hh]; exact Below.heap_alloc _ _ _ hp
  have h2 : p < X.heap.size := by rw [hh]; show p < (w.heap.push o).size; simp; omega
  rw [hg.block p h2 (fun he => by have := (ho.lt p he.symm).1; omega), h1]
theorem cell_p {w w' : World} {p k : Nat} {cs : Array Value} {ty : TypeId} (hb : w.heap[p]? = some (.cells cs ty (0, 0))) (h : w'.heap[p]? = w.heap[p]?) : w'.cell? ⟨p, k, none⟩ = w.cell? ⟨p, k, none⟩ := by
  rw [cell_of_row w p k _ _ _ hb, cell_of_row w' p k _ _ _ (h.trans hb)]
theorem own_other {w w' : World} {v : Value} {B n size : Nat} {e : TypeId} {xs : List Value} (h : w.ownsRow B e size v n xs) (hb : ∀ q, v.ownBlock = some q → w'.heap[q]? = w.heap[q]?) : w'.ownsRow B e size v n xs := by
  obtain ⟨h1, h2⟩ := h
  refine ⟨h1, ?_⟩
  rcases h2 with h2 | ⟨g, cap, cur, rfl, h3, h4, h5⟩
  · exact .inl h2
  · exact .inr ⟨g, cap, cur, rfl, h3, (hb g rfl).trans h4, h5⟩
/- all but the walk's box and the list of the branches above is as it was -/
def KeptP (w w' : World) (p : Nat) : Prop := w.heap.size ≤ w'.heap.size ∧ ∀ va, w.cell? ⟨p, 74, none⟩ = some va → ∀ k, k < w.heap.size → k ≠ p → va.ownBlock ≠ some k → w'.heap[k]? = w.heap[k]?
theorem above_snoc (P : PathT) (a b : Nat) (t : Bool) : aboveC (((a, b), t) :: P) = aboveC P ++ [.int .i64 a, .int .i64 b] := by simp [aboveC]
theorem enter_left {w0 w w3 w4 X w5 : World} {p a b g5 cap5 : Nat} {x y : Int} {r : Rd} {cl : Option Int} {P : PathT} {vs vf vf2 va : Value} {cs : Array Value} {ty : TypeId} (hw : WalkAt w0 w p r cl P vs vf vf2)
    (h3 : Below w.heap.size w w3) (f1 : ArcsAt w4 p 8 r (upd (tabP P) a b 1) vf2) (f2 : ∀ k u, k < 8 ∨ 74 ≤ k → w.cell? ⟨p, k, none⟩ = some u → w4.cell? ⟨p, k, none⟩ = some u) (f3 : ∀ k, k < w3.heap.size → k ≠ p → w4.heap[k]? = w3.heap[k]?) (f4 : Below p w w4) (f5 : w3.heap.size ≤ w4.heap.size)
    (hX : Below w4.heap.size w4 X) (h74 : w.cell? ⟨p, 74, none⟩ = some va) (hoa : w4.ownsRow (p + 1) 121 2 va P.length (aboveC P)) (hg : X.grownBy w5 va.ownBlock)
    (ho5 : w5.ownsRow (p + 1) 121 2 (.slice (some ⟨g5, 0, none⟩) (P.length + 1) cap5) (P.length + 1) (aboveC P ++ [.int .i64 x, .int .i64 y])) (hx : (a : Int) = x) (hy : (b : Int) = y)
    (hP5 : w5.heap[p]? = w4.heap[p]?) (hbox : w4.heap[p]? = some (.cells cs ty (0, 0))) :
    WalkAt w0 (w5.setCell ⟨p, 74, none⟩ (.slice (some ⟨g5, 0, none⟩) (P.length + 1) cap5)) p r cl (((a, b), true) :: P) vs vf vf2 ∧ KeptP w (w5.setCell ⟨p, 74, none⟩ (.slice (some ⟨g5, 0, none⟩) (P.length + 1) cap5)) p := by
  have hp4 : p < w4.heap.size := f1.lt
  have hb45 : Below (p + 1) w4 w5 := (hX.mono (by omega)).grown hg (by have := hX.size; omega) (fun q hq => (hoa.lt q hq).1)
  have hbox5 : w5.heap[p]? = some (.cells cs ty (0, 0)) := hP5.trans hbox
  have hk : ∀ k, k ≠ 74 → (w5.setCell ⟨p, 74, none⟩ (.slice (some ⟨g5, 0, none⟩) (P.length + 1) cap5)).cell? ⟨p, k, none⟩ = w4.cell? ⟨p, k, none⟩ := fun k hk => by
    rw [World.cell?_setCell_other _ _ _ _ (by intro h; simp only [Addr.mk.injEq] at h; omega)]; exact cell_p hbox hP5
  have ho : ∀ k u, (k < 8 ∨ 75 ≤ k) → w.cell? ⟨p, k, none⟩ = some u → (w5.setCell ⟨p, 74, none⟩ (.slice (some ⟨g5, 0, none⟩) (P.length + 1) cap5)).cell? ⟨p, k, none⟩ = some u := fun k u h1 h2 => (hk k (by omega)).trans (f2 k u (by omega) h2)
  have h74' : 74 < cs.size := by
    have h1 := f2 74 va (by omega) h74
    rw [cell_of_row w4 p 74 _ _ _ hbox] at h1
    exact (Array.getElem?_eq_some_iff.1 h1).1
  have hsame := heap_setCell_same w5 p 74 _ _ (.slice (some ⟨g5, 0, none⟩) (P.length + 1) cap5) hbox5
  refine ⟨⟨hw.size, ?_, ho 0 _ (by omega) hw.c0, ho 1 _ (by omega) hw.c1, ho 2 _ (by omega) hw.c2, ho 5 _ (by omega) hw.c5, ho 7 _ (by omega) hw.c7, ⟨⟨_, _, hsame⟩, (hk 8 (by omega)).trans f1.c0, (hk 9 (by omega)).trans f1.c1, fun a' b' ha hb => (hk _ (by omega)).trans (f1.said a' b' ha hb)⟩, ⟨.slice (some ⟨g5, 0, none⟩) (P.length + 1) cap5, ?_, ?_⟩, ho 75 _ (by omega) hw.c75, ho 76 _ (by omega) hw.c76⟩, ?_, ?_⟩
  · have h1 : Below p w w5 := f4.trans (hb45.mono (by omega))
    exact hw.below.trans (h1.setCell (Nat.le_refl _) _)
  · rw [cell_of_row _ p 74 _ _ _ hsame]; simp [h74']
  · rw [above_snoc, hx, hy]
    exact ownsRow_setCell_other ho5 (by intro h; have := (ho5.lt p h).1; omega) _
  · show w.heap.size ≤ _
    have h1 := h3.size
    have h2 := hb45.size
    simp; omega
  · intro va' hva' k hk1 hk2 hk3
    rw [h74] at hva'
    cases hva'
    have h9 : k < w3.heap.size := Nat.lt_of_lt_of_le hk1 h3.size
    have e1 : (w5.setCell ⟨p, 74, none⟩ (.slice (some ⟨g5, 0, none⟩) (P.length + 1) cap5)).heap[k]? = w5.heap[k]? := by
      exact Below.heap_setCell w5 _ _ k hk2
    rw [e1, hg.block k (by have := hX.size; omega) (fun h => hk3 h.symm), hX.block k (by omega), f3 k h9 hk2, h3.block k hk1]
set_option maxRecDepth 100000 in
set_option maxHeartbeats 4000000 in
theorem enter_yes (w0 w : World) (p : Nat) (r : Rd) (cl : Option Int) (P : PathT) (v vs vf : Value) (af : Option Addr) (cf a b : Nat) (hok : RdOk r) (hr : ListR w v [(a : Int), (b : Int)]) (hw : WalkAt w0 w p r cl P vs vf (.slice af (r.stops.length + 1 : Nat) cf)) (hP : P.length ≤ 1000) (han : a ≤ r.stops.length) (hbn : b ≤ r.stops.length) (hab : a ≠ b) (hsd : tabP P a b = 0) :
    Calls Try.prog 47 #[.pointer (some ⟨p, 8, none⟩), v] w fun e w' => e = .returned (.bool true) ∧ WalkAt w0 w' p r cl (((a, b), true) :: P) vs vf (.slice af (r.stops.length + 1 : Nat) cf) ∧ KeptP w w' p := by
  have hns := hok.nstops
  obtain ⟨i0, hi, hz0, hz1, hz2⟩ := info_parts Try.infoBranch
  obtain ⟨ao, c, rfl, hrr⟩ := hr
  have HW := hid hw
  have hpl := hw.arcs.lt
  have hsz : saidZ r.stops.length (tabP P) (a : Int) (b : Int) = 0 := by
    unfold saidZ; rw [if_pos ⟨⟨by omega, by omega⟩, ⟨by omega, by omega⟩, by omega⟩]; exact hsd
  obtain ⟨g, hao, hgl, q0⟩ := hrr 0 (by simp)
  obtain ⟨g', hao', _, q1⟩ := hrr 1 (by simp)
  subst hao
  cases hao'
  have q0 : w.cell? ⟨g, 0, none⟩ = some (.int .i64 (a : Int)) := q0
  have q1 : w.cell? ⟨g, 1, none⟩ = some (.int .i64 (b : Int)) := q1
  have HSD : Hid (∀ W, Below w.heap.size w W → Calls Try.prog 61 #[.pointer (some ⟨p, 8, none⟩), .int .i64 (a : Int), .int .i64 (b : Int)] W fun e w' => e = .returned (.int .i64 0) ∧ Below W.heap.size W w') := fun W hW => by rw [← hsz]; exact said_any p 8 r (tabP P) af cf r.stops.length a b W hns (hw.arcs.below hW)
  generalize hx : (a : Int) = x at *
  generalize hy : (b : Int) = y at *
  have HX := hid hx
  have HY := hid hy
  have hlen : ([x, y] : List Int).length = 2 := rfl
  rw [hlen]
  clear hrr hw hx hy hsz hlen
  go_enter Try.func47, Try.ntmps47
  go_wp2_with fail
  go_region_held3 (fun w' => w'.cell? ⟨g, 0, none⟩ = some (.int .i64 x) ∧ w'.cell? ⟨g, 1, none⟩ = some (.int .i64 y)) (go_keep) (fail)
  obtain ⟨W1, hW1⟩ : ∃ W1, W1 = (w.alloc (.cells #[.int .i64 x, .int .i64 y] 121)).drew := ⟨_, rfl⟩
  rw [← hW1]
  have HB1 : Hid (Below w.heap.size w W1) := by rw [hW1]; exact (below1 w _).drew
  have hbx : W1.heap[w.heap.size]? = some (.cells #[.int .i64 x, .int .i64 y] 121 (0, 0)) := by rw [hW1]; exact heap_alloc_new w _
  have k0 : W1.cell? ⟨w.heap.size, 0, none⟩ = some (.int .i64 x) := cell_of_row W1 _ 0 _ _ _ hbx
  have k1 : W1.cell? ⟨w.heap.size, 1, none⟩ = some (.int .i64 y) := cell_of_row W1 _ 1 _ _ _ hbx
  have kl : w.heap.size < W1.heap.size := (Array.getElem?_eq_some_iff.1 hbx).1
  have HCW : Hid (∀ W, Below W1.heap.size W1 W → Calls Try.prog 61 #[.pointer (some ⟨p, 8, none⟩), .int .i64 x, .int .i64 y] W fun e w' => e = .returned (.int .i64 0) ∧ w'.cell? ⟨w.heap.size, 0, none⟩ = some (.int .i64 x) ∧ w'.cell? ⟨w.heap.size, 1, none⟩ = some (.int .i64 y) ∧ Hid (Below W1.heap.size W1 w')) := fun W hW => by
    refine (HSD.out W (HB1.out.trans (hW.mono HB1.out.size))).mono ?_
    rintro e w' ⟨h1, h2⟩
    have h3 : Below W1.heap.size W1 w' := hW.trans (h2.mono hW.size)
    exact ⟨h1, (h3.cell (by exact kl)).trans k0, (h3.cell (by exact kl)).trans k1, h3⟩
  have HBX := hid hbx
  clear hW1 hbx q0 q1 HSD
  go_wp2_with fail
  go_region_held3 (fun w' => w'.cell? ⟨w.heap.size, 0, none⟩ = some (.int .i64 x) ∧ w'.cell? ⟨w.heap.size, 1, none⟩ = some (.int .i64 y)) (go_keep) (first | (go_at_call 61; refine (HCW.out _ (by first | exact Below.refl _ _ | exact (Below.refl _ _).drew)).mono ?_; rintro e3 w3 ⟨rfl, z0, z1, HB3⟩))
  have HW3 : Hid (Below w.heap.size w w3) := HB1.out.trans (HB3.out.mono HB1.out.size)
  have HBX3 : Hid (w3.heap[w.heap.size]? = _) := (HB3.out.block _ kl).trans HBX.out
  have hpw3 : p < w3.heap.size := Nat.lt_of_lt_of_le hpl HW3.out.size
  have hbl3 : w.heap.size < w3.heap.size := Nat.lt_of_lt_of_le kl HB3.out.size
  have HCX : Hid (∀ W, Below w3.heap.size w3 W → Calls Try.prog 62 #[.pointer (some ⟨p, 8, none⟩), .int .i64 x, .int .i64 y, .int .i64 1] W fun e w' => e = .returned (.tuple #[]) ∧ w'.cell? ⟨w.heap.size, 0, none⟩ = some (.int .i64 x) ∧ w'.cell? ⟨w.heap.size, 1, none⟩ = some (.int .i64 y) ∧ Hid (ArcsAt w' p 8 r (upd (tabP P) a b 1) (.slice af (r.stops.length + 1 : Nat) cf) ∧ (∀ k u, k < 8 ∨ 74 ≤ k → w.cell? ⟨p, k, none⟩ = some u → w'.cell? ⟨p, k, none⟩ = some u) ∧ (∀ k, k < w3.heap.size → k ≠ p → w'.heap[k]? = w3.heap[k]?) ∧ Below p w w' ∧ w3.heap.size ≤ w'.heap.size)) := fun W hW => by
    have hWW : Below w.heap.size w W := HW3.out.trans (hW.mono HW3.out.size)
    refine (say_any p 8 r (tabP P) af cf r.stops.length x y 1 W hns (HW.out.arcs.below hWW)).mono ?_
    rintro e w' ⟨h1, h2, h3, h4, h5⟩
    have hbk : w'.heap[w.heap.size]? = w3.heap[w.heap.size]? := by
      rw [h4 _ (Nat.lt_of_lt_of_le hbl3 hW.size) (by omega)]; exact hW.block _ hbl3
    have hbk2 : w'.heap[w.heap.size]? = some (.cells #[.int .i64 x, .int .i64 y] 121 (0, 0)) := hbk.trans HBX3.out
    refine ⟨h1, cell_of_row w' _ 0 _ _ _ hbk2, cell_of_row w' _ 1 _ _ _ hbk2, ?_, fun k u hk hu => h3 k u (by omega) ((hWW.cell (by exact hpl)).trans hu), fun k hk hne => ?_, (hWW.mono (Nat.le_of_lt hpl)).trans h5, Nat.le_trans hW.size h5.size⟩
    · have e2 : sayZ r.stops.length (tabP P) x y 1 = upd (tabP P) a b 1 := by
        unfold sayZ
        rw [← HX.out, ← HY.out, if_pos ⟨⟨by omega, by omega⟩, ⟨by omega, by omega⟩, by omega⟩]; simp
      rw [← e2]; exact h2
    · rw [h4 k (Nat.lt_of_lt_of_le hk hW.size) hne]; exact hW.block k hk
  clear HCW k0 k1 HBX
  go_wp2_with fail
  go_region_held3 (fun w' => w'.cell? ⟨w.heap.size, 0, none⟩ = some (.int .i64 x) ∧ w'.cell? ⟨w.heap.size, 1, none⟩ = some (.int .i64 y)) (go_keep) (first | (go_at_call 62; refine (HCX.out _ (by first | exact Below.refl _ _ | exact (Below.refl _ _).drew)).mono ?_; rintro e4 w4 ⟨rfl, t0, t1, HF4⟩))
  clear HCX z0 z1
  obtain ⟨f1, f2, f3, f4, f5⟩ := HF4.out
  obtain ⟨va, g74, hoa⟩ := HW.out.above
  have a74 : w4.cell? ⟨p, 74, none⟩ = some va := f2 74 va (by omega) g74
  have hoa3 : w3.ownsRow (p + 1) 121 2 va P.length (aboveC P) := own_below hoa HW3.out
  have hoa4 : w4.ownsRow (p + 1) 121 2 va P.length (aboveC P) := own_other hoa3 (fun q hq => by have h9 := hoa3.lt q hq; exact f3 q h9.2 (by omega))
  obtain ⟨av, cv, rfl, _, _⟩ := own_val hoa4
  have HOA := hid hoa4
  have af4 := f1.frozen 74
  have hp4 : p < w4.heap.size := f1.lt
  have hp5 : p + 1 < w4.heap.size := by omega
  have G74 := hid g74
  clear f1 f2 f3 f4 f5 g74 hoa hoa4
  obtain ⟨cs, ty, hbox⟩ := HF4.out.1.box
  have HBOX := hid hbox
  clear hbox
  go_wp2_with fail
  go_region_law (refine step_append_own rfl (.tmp 37) (.tmp 39) 81 rfl (p + 1) 121 i0 (.agg #[.int .i64 0, .int .i64 0]) 2 16 Try.underlying81 hi hz0 hz1 hz2 rfl (by decide) (.slice av P.length cv) P.length (aboveC P) (by simp [Act.eval]) (by exact own_new rfl HOA.out rfl) ⟨w4.heap.size, 0, none⟩ 1 1 [.int .i64 x, .int .i64 y] (by simp [Act.eval]) rfl (by exact news_at rfl rfl) (by intro u hu; simp at hu; rcases hu with rfl | rfl <;> rfl) (by unfold maxLen; omega) (by omega) (by exact lt_new rfl (Nat.le_refl (p + 1)) hp5) ?_; intro v5 w5 hown5 hgr5; have HO5 := hid hown5; have HG5 := hid hgr5; have HP5 : Hid (w5.heap[p]? = w4.heap[p]?) := kept_p (w := w4) (by exact rfl) hp4 HOA.out hgr5; obtain ⟨g5, cap5, cur5, hv5, _, _, _⟩ := own_shape hown5 (by omega); clear hown5 hgr5; subst hv5; have c5 : w5.cell? ⟨p, 74, none⟩ = some (.slice av P.length cv) := (cell_p (k := 74) HBOX.out HP5.out).trans a74; have f5 : w5.frozen? ⟨p, 74, none⟩ = false := frozen_of_row w5 p 74 _ _ (HP5.out.trans HBOX.out))
  all_goals
    go_wp2
    go_ret
    exact ⟨rfl, enter_left HW.out HW3.out HF4.out.1 HF4.out.2.1 HF4.out.2.2.1 HF4.out.2.2.2.1 HF4.out.2.2.2.2 (below1 w4 _).drew G74.out HOA.out HG5.out HO5.out HX.out HY.out HP5.out HBOX.out⟩
end Go.Proofs.Ytebinaopncclgab
