/- Walks of the statements: one step: Parse. -/
import Derived.Test.YtebinaopncclgabGreatDoorSameI
import Derived.Test.YtebinaopncclgabGreatDoorPlainF
namespace Go.Proofs.YtebinaopncclgabGreatDoor
open Go.RowKit Go.IntWalk

/- a list whose cells, all of them, are as they were written; its block is below bd -/
def Full (w : World) (bd : Nat) (t : TypeId) (size : Nat) (P : Nat → Value → Prop) (v : Value) : Prop :=
  ∃ ao c, v = .slice ao c c ∧ c ≤ maxLen ∧ (0 < c → ∃ g cur, ao = some ⟨g, 0, none⟩ ∧ g < bd ∧ w.heap[g]? = some (.cells cur t (0, 0)) ∧ ∀ j q, j < c → q < size → ∃ u, cur[j * size + q]? = some u ∧ P q u)
theorem Full.keep {w w' : World} {bd bd' : Nat} {t : TypeId} {size : Nat} {P : Nat → Value → Prop} {v : Value} {T : List TypeId} (h : Full w bd t size P v) (hk : Keep T w w') (ht : t ∉ T) (hb : bd ≤ bd') : Full w' bd' t size P v := by
  obtain ⟨ao, c, h1, h2, h3⟩ := h
  refine ⟨ao, c, h1, h2, fun hc => ?_⟩
  obtain ⟨g, cur, k1, k2, k3, k4⟩ := h3 hc
  exact ⟨g, cur, k1, by omega, hk g cur t _ k3 ht, k4⟩
theorem Full.lt {w : World} {bd : Nat} {t : TypeId} {size : Nat} {P : Nat → Value → Prop} {v : Value} (h : Full w bd t size P v) : ∀ g c, v = .slice (some ⟨g, 0, none⟩) c c → 0 < c → g < bd := by
  obtain ⟨ao, c, h1, h2, h3⟩ := h
  intro g c' e hc
  rw [h1] at e; cases e
  obtain ⟨g', cur, k1, k2, _⟩ := h3 hc
  cases k1; exact k2
theorem Full.grown {w w' : World} {bd bd' : Nat} {t : TypeId} {size : Nat} {P : Nat → Value → Prop} {v : Value} {row : Option Nat} (h : Full w bd t size P v) (hg : w.grownBy w' row) (hr : ∀ g c, v = .slice (some ⟨g, 0, none⟩) c c → 0 < c → row ≠ some g) (hb : bd ≤ bd') : Full w' bd' t size P v := by
  obtain ⟨ao, c, h1, h2, h3⟩ := h
  refine ⟨ao, c, h1, h2, fun hc => ?_⟩
  obtain ⟨g, cur, k1, k2, k3, k4⟩ := h3 hc
  exact ⟨g, cur, k1, by omega, by rw [hg.block g (Array.getElem?_eq_some_iff.1 k3).1 (fun e => hr g c (by rw [h1, k1]) hc e.symm)]; exact k3, k4⟩

/- what is written into each kind of list -/
def isInt (i : Nat) (_ : Nat) (u : Value) : Prop := u = .int .i64 ((i + 1 : Nat) : Int)
def isRow (i : Nat) (_ : Nat) (u : Value) : Prop := ∃ a c, u = .slice a (i + 1) c
def isNum (i : Nat) (q : Nat) (u : Value) : Prop := u = .int .i64 (if q = 0 then ((i + 1 : Nat) : Int) else 0)
def isNode (i : Nat) (q : Nat) (u : Value) : Prop := u = if q = 0 then .int .i64 ((i + 1 : Nat) : Int) else .slice none 0 0

structure HoldIs (w : World) (bb bd hb : Nat) (vi vr vs vd vn : Value) (I R S D N : List Value) : Prop where
  box : w.heap[hb]? = some (.cells #[vi, vr, vs, vd, vn] 55 (0, 0))
  lo : bb ≤ hb
  oi : w.ownsRow bb 40 1 vi I.length I
  or : w.ownsRow bb 31 1 vr R.length R
  os : w.ownsRow bb 25 1 vs S.length S
  od : w.ownsRow bb 26 1 vd D.length D
  on : w.ownsRow bb 56 1 vn N.length N
  fi : ∀ i (h : i < I.length), Full w bd 3 1 (isInt i) I[i]
  fr : ∀ i (h : i < R.length), Full w bd 40 1 (isRow i) R[i]
  fs : ∀ i (h : i < S.length), Full w bd 62 5 (isNum i) S[i]
  fd : ∀ i (h : i < D.length), Full w bd 64 3 (isNum i) D[i]
  fn : ∀ i (h : i < N.length), Full w bd 76 2 (isNode i) N[i]

theorem HoldIs.below {w w' : World} {bb bd hb : Nat} {vi vr vs vd vn : Value} {I R S D N : List Value} (h : HoldIs w bb bd hb vi vr vs vd vn I R S D N) (hb' : Below w.heap.size w w') {bd' : Nat} (h2 : bd ≤ bd') : HoldIs w' bb bd' hb vi vr vs vd vn I R S D N :=
  have hk : Keep [] w w' := Keep.of_below hb'
  ⟨by rw [hb'.block _ (Array.getElem?_eq_some_iff.1 h.box).1]; exact h.box, h.lo, own_below h.oi hb', own_below h.or hb', own_below h.os hb', own_below h.od hb', own_below h.on hb', fun i hi => (h.fi i hi).keep hk (by simp) h2, fun i hi => (h.fr i hi).keep hk (by simp) h2, fun i hi => (h.fs i hi).keep hk (by simp) h2, fun i hi => (h.fd i hi).keep hk (by simp) h2, fun i hi => (h.fn i hi).keep hk (by simp) h2⟩

/- a list that came out: its whole room -/
def Room (w : World) (B : Nat) (t : TypeId) (size : Nat) (ao : Option Addr) (c : Nat) : Prop :=
  c ≤ maxLen ∧ (0 < c → ∃ g cur, ao = some ⟨g, 0, none⟩ ∧ B ≤ g ∧ w.heap[g]? = some (.cells cur t (0, 0)) ∧ cur.size = c * size) ∧ (ao = none → c = 0) ∧ ∀ a, ao = some a → ∃ g cur, a = ⟨g, 0, none⟩ ∧ B ≤ g ∧ w.heap[g]? = some (.cells cur t (0, 0))
theorem room_of {w : World} {B n size : Nat} {e : TypeId} {v : Value} {xs : List Value} (h : w.ownsRow B e size v n xs) : ∃ ao c, v = .slice ao n c ∧ n ≤ c ∧ Room w B e size ao c := by
  rcases h.2 with ⟨rfl, rfl⟩ | ⟨g, cap, cur, rfl, hb, hg, hc, hm, hz, _⟩
  · exact ⟨none, 0, rfl, Nat.le_refl _, Nat.zero_le _, fun h => absurd h (by omega), fun _ => rfl, fun a h => by cases h⟩
  · exact ⟨some ⟨g, 0, none⟩, cap, rfl, hc, hm, fun _ => ⟨g, cur, rfl, hb, hg, hz⟩, fun h => (by cases h), fun a h => (by cases h; exact ⟨g, cur, rfl, hb, hg⟩)⟩

theorem room_block {w : World} {B n c size : Nat} {e : TypeId} {ao : Option Addr} (h : Room w B e size ao c) : ∀ k, (Value.slice ao n c).ownBlock = some k → B ≤ k ∧ ∃ cur, w.heap[k]? = some (.cells cur e (0, 0)) := by
  intro k hk
  cases ao with
  | none => cases hk
  | some a =>
    obtain ⟨g, cur, rfl, hb, hg⟩ := h.2.2.2 a rfl
    cases hk
    exact ⟨hb, cur, hg⟩
theorem grow_keep {w w' : World} {row : Option Nat} {t : TypeId} (hg : w.grownBy w' row) (ht : ∀ k, row = some k → ∃ cur, w.heap[k]? = some (.cells cur t (0, 0))) : Keep [t] w w' := by
  intro k cur t' z hk hne
  rw [hg.block k (Array.getElem?_eq_some_iff.1 hk).1 ?_]
  · exact hk
  · intro e
    obtain ⟨cur', h'⟩ := ht k e.symm
    rw [hk] at h'; cases h'; simp at hne

/- cells are written -/
theorem grown_set {w0 w : World} {g o : Nat} (h : w0.grownBy w (some g)) (u : Value) : w0.grownBy (w.setCell ⟨g, o, none⟩ u) (some g) := by
  have hb := (Below.refl 0 w).setCell (p := ⟨g, o, none⟩) (Nat.zero_le _) u
  refine ⟨hb.os.trans h.os, hb.tape.trans h.tape, hb.output.trans h.output, Nat.le_trans h.size hb.size, fun k hk hne => ?_⟩
  rw [Below.heap_setCell _ _ _ _ (fun e => hne (by rw [e]))]; exact h.block k hk hne
theorem grown_refl (w : World) (row : Option Nat) : w.grownBy w row := ⟨rfl, rfl, rfl, Nat.le_refl _, fun _ _ _ => rfl⟩
end Go.Proofs.YtebinaopncclgabGreatDoor
namespace Go.Proofs.YtebinaopncclgabGreatDoor
open Go.RowKit Go.IntWalk

theorem own_at {w : World} {B n : Nat} {e : TypeId} {v : Value} {xs : List Value} (h : w.ownsRow B e 1 v n xs) {i : Nat} (hi : i < n) (hx : i < xs.length) : ∃ g cap, v = .slice (some ⟨g, 0, none⟩) n cap ∧ g < w.heap.size ∧ w.cell? ⟨g, i, none⟩ = some xs[i] := by
  obtain ⟨g, cap, cur, rfl, _, hg, _⟩ := own_shape h (by omega)
  refine ⟨g, cap, rfl, (Array.getElem?_eq_some_iff.1 hg).1, ?_⟩
  rw [h.cellAt i (by omega)]; simp [hx]
theorem own_max {w : World} {B n size : Nat} {e : TypeId} {v : Value} {xs : List Value} (h : w.ownsRow B e size v n xs) : n ≤ 9223372036854775807 := by
  rcases h.2 with ⟨_, h0⟩ | ⟨g, cap, cur, _, _, _, h1, h2, _⟩
  · omega
  · unfold maxLen at h2; omega
/- a list that is full: its value, and the cell at a place -/
theorem full_cells {w : World} {bd : Nat} {t : TypeId} {size : Nat} {P : Nat → Value → Prop} {v : Value} (h : Full w bd t size P v) : ∃ ao c, v = .slice ao c c ∧ c ≤ 9223372036854775807 ∧ ∀ j, j < c → ∃ g, ao = some ⟨g, 0, none⟩ ∧ g < w.heap.size ∧ ∀ q, q < size → ∃ u, w.cell? ⟨g, j * size + q, none⟩ = some u ∧ P q u := by
  obtain ⟨ao, c, h1, h2, h3⟩ := h
  refine ⟨ao, c, h1, by unfold maxLen at h2; omega, fun j hj => ?_⟩
  obtain ⟨g, cur, k1, _, k3, k4⟩ := h3 (by omega)
  refine ⟨g, k1, (Array.getElem?_eq_some_iff.1 k3).1, fun q hq => ?_⟩
  obtain ⟨u, e1, e2⟩ := k4 j q hj hq
  exact ⟨u, by rw [cell_of_row _ _ _ _ _ _ k3]; exact e1, e2⟩
theorem hold_cells {w : World} {bb bd hb : Nat} {vi vr vs vd vn : Value} {I R S D N : List Value} (h : HoldIs w bb bd hb vi vr vs vd vn I R S D N) :
    hb < w.heap.size ∧ w.cell? ⟨hb, 0, none⟩ = some vi ∧ w.cell? ⟨hb, 1, none⟩ = some vr ∧ w.cell? ⟨hb, 2, none⟩ = some vs ∧ w.cell? ⟨hb, 3, none⟩ = some vd ∧ w.cell? ⟨hb, 4, none⟩ = some vn := by
  refine ⟨(Array.getElem?_eq_some_iff.1 h.box).1, ?_, ?_, ?_, ?_, ?_⟩ <;> (rw [cell_of_row _ _ _ _ _ _ h.box]; rfl)
theorem int_at {w : World} {g j i : Nat} {u : Value} (h : w.cell? ⟨g, j * 1 + 0, none⟩ = some u ∧ isInt i 0 u) : w.cell? ⟨g, j, none⟩ = some (.int .i64 ((i : Int) + 1)) := by
  have h1 := h.1
  rw [h.2, Nat.mul_one, Nat.add_zero] at h1
  rw [h1]; simp

set_option maxRecDepth 100000 in
set_option maxHeartbeats 1000000 in
theorem same_walk (bb bd hb : Nat) (vi vr vs vd vn : Value) (I R S D N : List Value) (w : World) (h : HoldIs w bb bd hb vi vr vs vd vn I R S D N) :
    Calls Tryz.prog 35 #[.pointer (some ⟨hb, 0, none⟩)] w fun e w' => e = .returned (.bool true) ∧ Below w.heap.size w w' := by
  have HH := hid h
  have hmi := own_max h.oi
  have hmr := own_max h.or
  obtain ⟨avi, cvi, hvi, _, _⟩ := own_val h.oi
  obtain ⟨avr, cvr, hvr, _, _⟩ := own_val h.or
  subst hvi hvr
  clear h
  go_enter Tryz.func35, Tryz.ntmps35
  go_wp2_with fail
  go_loopw [3] (fun i wr => ∃ k : Nat, i = .int .i64 k ∧ k ≤ I.length ∧ Hid (Below w.heap.size w wr)) (fun i _ => I.length - (intOf i).toNat)
  case atStart => exact ⟨0, rfl, by omega, Below.refl _ _⟩
  case round =>
    obtain ⟨k, rfl, hk, HB⟩ := hrel
    obtain ⟨hbl, c0, c1, _, _, _⟩ := hold_cells (HH.out.below HB.out (Nat.le_refl bd))
    by_cases hlt : k < I.length
    · obtain ⟨g0, cap0, e0, hg0, x0⟩ := own_at (own_below HH.out.oi HB.out) hlt hlt
      cases e0
      obtain ⟨ao, c, hv, hcm, hc⟩ := full_cells (HH.out.fi k hlt)
      rw [hv] at x0
      have HC := hid hc
      have HV := hid hv
      clear hc hv c1
      go_wp2_with fail
      go_loopw [4] (fun i wr => ∃ p : Nat, i = .int .i64 p ∧ p ≤ c ∧ Hid (Below w.heap.size w wr)) (fun i _ => c - (intOf i).toNat)
      case atStart => exact ⟨0, rfl, by omega, HB⟩
      case round =>
        clear HB c0 x0 hbl hg0
        obtain ⟨p, rfl, hp, HB⟩ := hrel
        obtain ⟨hbl, c0, _, _, _, _⟩ := hold_cells (HH.out.below HB.out (Nat.le_refl bd))
        obtain ⟨g1, cap1, e1, hg0, x0⟩ := own_at (own_below HH.out.oi HB.out) hlt hlt
        cases e1
        rw [HV.out] at x0
        by_cases hlp : p < c
        · obtain ⟨g, rfl, hgl, hq⟩ := HC.out p hlp
          obtain ⟨u, hu⟩ := hq 0 (by omega)
          have y0 := int_at hu
          have z0 : wr.cell? ⟨g, p, none⟩ = some (.int .i64 ((k : Int) + 1)) := (HB.out.cell (by exact hgl)).trans y0
          have hgr : g < wr.heap.size := by have := HB.out.size; omega
          clear hq hu y0
          go_wp2_with fail
          go_roundw
          case rel => exact ⟨p + 1, by go_num, by omega, HB⟩
          case measure => simp [intOf]; omega
        · go_wp2_with fail
          go_roundw
          case rel => exact ⟨k + 1, by go_num, by omega, HB⟩
          case measure => simp [intOf]; omega
    · go_wp2_with fail
      clear c0 c1 hbl
      go_loopw [5] (fun i wr => ∃ k : Nat, i = .int .i64 k ∧ k ≤ R.length ∧ Hid (Below w.heap.size w wr)) (fun i _ => R.length - (intOf i).toNat)
      case atStart => exact ⟨0, rfl, by omega, HB⟩
      case round =>
        clear HB
        obtain ⟨m, rfl, hm, HB⟩ := hrel
        obtain ⟨hbl, _, c1, _, _, _⟩ := hold_cells (HH.out.below HB.out (Nat.le_refl bd))
        by_cases hlm : m < R.length
        · obtain ⟨g0, cap0, e0, hg0, x0⟩ := own_at (own_below HH.out.or HB.out) hlm hlm
          cases e0
          obtain ⟨ao, c, hv, hcm, hc⟩ := full_cells (HH.out.fr m hlm)
          rw [hv] at x0
          have HC := hid hc
          have HV := hid hv
          clear hc hv
          go_wp2_with fail
          go_loopw [6] (fun i wr => ∃ p : Nat, i = .int .i64 p ∧ p ≤ c ∧ Hid (Below w.heap.size w wr)) (fun i _ => c - (intOf i).toNat)
          case atStart => exact ⟨0, rfl, by omega, HB⟩
          case round =>
            clear HB c1 x0 hbl hg0
            obtain ⟨p, rfl, hp, HB⟩ := hrel
            obtain ⟨hbl, _, c1, _, _, _⟩ := hold_cells (HH.out.below HB.out (Nat.le_refl bd))
            obtain ⟨g1, cap1, e1, hg0, x0⟩ := own_at (own_below HH.out.or HB.out) hlm hlm
            cases e1
            rw [HV.out] at x0
            by_cases hlp : p < c
            · obtain ⟨g, rfl, hgl, hq⟩ := HC.out p hlp
              obtain ⟨u, hu, a', c', hr⟩ := hq 0 (by omega)
              rw [hr, Nat.mul_one, Nat.add_zero] at hu
              have z0 : wr.cell? ⟨g, p, none⟩ = some (.slice a' (m + 1) c') := (HB.out.cell (by exact hgl)).trans hu
              have hgr : g < wr.heap.size := by have := HB.out.size; omega
              clear hq hu
              go_wp2_with fail
              go_roundw
              case rel => exact ⟨p + 1, by go_num, by omega, HB⟩
              case measure => simp [intOf]; omega
            · go_wp2_with fail
              go_roundw
              case rel => exact ⟨m + 1, by go_num, by omega, HB⟩
              case measure => simp [intOf]; omega
        · go_wp2
          go_ret
          exact ⟨rfl, HB.out⟩

theorem num_at {w : World} {g j i size q : Nat} {u : Value} (h : w.cell? ⟨g, j * size + q, none⟩ = some u ∧ isNum i q u) : w.cell? ⟨g, j * size + q, none⟩ = some (.int .i64 (if q = 0 then (i : Int) + 1 else 0)) := by
  have h1 := h.1
  rw [h.2] at h1
  rw [h1]; simp
set_option maxRecDepth 100000 in
set_option maxHeartbeats 1000000 in
theorem still_walk (bb bd hb : Nat) (vi vr vs vd vn : Value) (I R S D N : List Value) (w : World) (h : HoldIs w bb bd hb vi vr vs vd vn I R S D N) (hlen : S.length = D.length) :
    Calls Tryz.prog 20 #[.pointer (some ⟨hb, 0, none⟩)] w fun e w' => e = .returned (.bool true) ∧ Below w.heap.size w w' := by
  have HH := hid h
  have hms := own_max h.os
  have hmd := own_max h.od
  have hmn := own_max h.on
  obtain ⟨avs, cvs, hvs, _, _⟩ := own_val h.os
  obtain ⟨avd, cvd, hvd, _, _⟩ := own_val h.od
  obtain ⟨avn, cvn, hvn, _, _⟩ := own_val h.on
  subst hvs hvd hvn
  have HL := hid hlen
  clear h hlen
  go_enter Tryz.func20, Tryz.ntmps20
  go_wp2_with fail
  go_loopw [3] (fun i wr => ∃ k : Nat, i = .int .i64 k ∧ k ≤ S.length ∧ Hid (Below w.heap.size w wr)) (fun i _ => S.length - (intOf i).toNat)
  case atStart => exact ⟨0, rfl, by omega, Below.refl _ _⟩
  case round =>
    obtain ⟨k, rfl, hk, HB⟩ := hrel
    obtain ⟨hbl, _, _, c2, c3, c4⟩ := hold_cells (HH.out.below HB.out (Nat.le_refl bd))
    by_cases hlt : k < S.length
    · obtain ⟨g0, cap0, e0, hg0, x0⟩ := own_at (own_below HH.out.os HB.out) hlt hlt
      cases e0
      obtain ⟨ao, c, hv, hcm, hc⟩ := full_cells (HH.out.fs k hlt)
      rw [hv] at x0
      have HC := hid hc
      have HV := hid hv
      clear hc hv c3 c4
      go_wp2_with fail
      go_loopw [4] (fun i wr => ∃ p : Nat, i = .int .i64 p ∧ p ≤ c ∧ Hid (Below w.heap.size w wr)) (fun i _ => c - (intOf i).toNat)
      case atStart => exact ⟨0, rfl, by omega, HB⟩
      case round =>
        clear HB c2 x0 hbl hg0
        obtain ⟨p, rfl, hp, HB⟩ := hrel
        obtain ⟨hbl, _, _, c2, c3, _⟩ := hold_cells (HH.out.below HB.out (Nat.le_refl bd))
        obtain ⟨g1, cap1, e1, hg0, x0⟩ := own_at (own_below HH.out.os HB.out) hlt hlt
        cases e1
        rw [HV.out] at x0
        by_cases hlp : p < c
        · obtain ⟨g, rfl, hgl, hq⟩ := HC.out p hlp
          have zz : ∀ q, q < 5 → wr.cell? ⟨g, p * 5 + q, none⟩ = some (.int .i64 (if q = 0 then (k : Int) + 1 else 0)) := fun q hq5 => by
            obtain ⟨u, hu⟩ := hq q hq5
            exact (HB.out.cell (by exact hgl)).trans (num_at hu)
          have z0 : wr.cell? ⟨g, p * 5, none⟩ = some (.int .i64 ((k : Int) + 1)) := zz 0 (by omega)
          have z1 : wr.cell? ⟨g, p * 5 + 1, none⟩ = some (.int .i64 0) := zz 1 (by omega)
          have z2 : wr.cell? ⟨g, p * 5 + 2, none⟩ = some (.int .i64 0) := zz 2 (by omega)
          have z3 : wr.cell? ⟨g, p * 5 + 3, none⟩ = some (.int .i64 0) := zz 3 (by omega)
          have z4 : wr.cell? ⟨g, p * 5 + 4, none⟩ = some (.int .i64 0) := zz 4 (by omega)
          have hgr : g < wr.heap.size := by have := HB.out.size; omega
          clear hq zz c3
          go_wp2_with fail
          go_roundw
          case rel => exact ⟨p + 1, by go_num, by omega, HB⟩
          case measure => simp [intOf]; omega
        · obtain ⟨g2, cap2, e2, hg2, x2⟩ := own_at (own_below HH.out.od HB.out) (i := k) (by have := HL.out; omega) (by have := HL.out; omega)
          cases e2
          obtain ⟨ao', c', hv', hcm', hc'⟩ := full_cells (HH.out.fd k (by have := HL.out; omega))
          rw [hv'] at x2
          have hkd : k < D.length := by have := HL.out; omega
          have HC' := hid hc'
          have HV' := hid hv'
          clear hc' hv'
          go_wp2_with fail
          clear c2 x0 c3 x2 hbl hg0 hg2
          go_loopw [5] (fun i wr => ∃ p : Nat, i = .int .i64 p ∧ p ≤ c' ∧ Hid (Below w.heap.size w wr)) (fun i _ => c' - (intOf i).toNat)
          case atStart => exact ⟨0, rfl, by omega, HB⟩
          case round =>
            clear HB
            obtain ⟨m, rfl, hm, HB⟩ := hrel
            obtain ⟨hbl, _, _, _, c3, _⟩ := hold_cells (HH.out.below HB.out (Nat.le_refl bd))
            obtain ⟨g3, cap3, e3, hg3, x3⟩ := own_at (own_below HH.out.od HB.out) (i := k) (by have := HL.out; omega) (by have := HL.out; omega)
            cases e3
            rw [HV'.out] at x3
            have hkd : k < D.length := by have := HL.out; omega
            by_cases hlm : m < c'
            · obtain ⟨g, rfl, hgl, hq⟩ := HC'.out m hlm
              have zz : ∀ q, q < 3 → wr.cell? ⟨g, m * 3 + q, none⟩ = some (.int .i64 (if q = 0 then (k : Int) + 1 else 0)) := fun q hq5 => by
                obtain ⟨u, hu⟩ := hq q hq5
                exact (HB.out.cell (by exact hgl)).trans (num_at hu)
              have z0 : wr.cell? ⟨g, m * 3, none⟩ = some (.int .i64 ((k : Int) + 1)) := zz 0 (by omega)
              have z1 : wr.cell? ⟨g, m * 3 + 1, none⟩ = some (.int .i64 0) := zz 1 (by omega)
              have z2 : wr.cell? ⟨g, m * 3 + 2, none⟩ = some (.int .i64 0) := zz 2 (by omega)
              have hgr : g < wr.heap.size := by have := HB.out.size; omega
              clear hq zz
              go_wp2_with fail
              go_roundw
              case rel => exact ⟨m + 1, by go_num, by omega, HB⟩
              case measure => simp [intOf]; omega
            · go_wp2_with fail
              go_roundw
              case rel => exact ⟨k + 1, by go_num, by omega, HB⟩
              case measure => simp [intOf]; omega
    · go_wp2_with fail
      clear c2 c3 c4 hbl
      go_loopw [6] (fun i wr => ∃ k : Nat, i = .int .i64 k ∧ k ≤ N.length ∧ Hid (Below w.heap.size w wr)) (fun i _ => N.length - (intOf i).toNat)
      case atStart => exact ⟨0, rfl, by omega, HB⟩
      case round =>
        clear HB
        obtain ⟨m, rfl, hm, HB⟩ := hrel
        obtain ⟨hbl, _, _, _, _, c4⟩ := hold_cells (HH.out.below HB.out (Nat.le_refl bd))
        by_cases hlm : m < N.length
        · obtain ⟨g0, cap0, e0, hg0, x0⟩ := own_at (own_below HH.out.on HB.out) hlm hlm
          cases e0
          obtain ⟨ao, c, hv, hcm, hc⟩ := full_cells (HH.out.fn m hlm)
          rw [hv] at x0
          have HC := hid hc
          have HV := hid hv
          clear hc hv
          go_wp2_with fail
          go_loopw [7] (fun i wr => ∃ p : Nat, i = .int .i64 p ∧ p ≤ c ∧ Hid (Below w.heap.size w wr)) (fun i _ => c - (intOf i).toNat)
          case atStart => exact ⟨0, rfl, by omega, HB⟩
          case round =>
            clear HB c4 x0 hbl hg0
            obtain ⟨p, rfl, hp, HB⟩ := hrel
            obtain ⟨hbl, _, _, _, _, c4⟩ := hold_cells (HH.out.below HB.out (Nat.le_refl bd))
            obtain ⟨g1, cap1, e1, hg0, x0⟩ := own_at (own_below HH.out.on HB.out) hlm hlm
            cases e1
            rw [HV.out] at x0
            by_cases hlp : p < c
            · obtain ⟨g, rfl, hgl, hq⟩ := HC.out p hlp
              obtain ⟨u, hu, hr⟩ := hq 0 (by omega)
              obtain ⟨u1, hu1, hr1⟩ := hq 1 (by omega)
              have z0 : wr.cell? ⟨g, p * 2, none⟩ = some (.int .i64 ((m : Int) + 1)) := by
                refine (HB.out.cell (p := ⟨g, p * 2, none⟩) (by exact hgl)).trans ?_
                rw [Nat.add_zero] at hu; rw [hu, hr]; simp
              have z1 : wr.cell? ⟨g, p * 2 + 1, none⟩ = some (.slice none 0 0) := by
                refine (HB.out.cell (p := ⟨g, p * 2 + 1, none⟩) (by exact hgl)).trans ?_
                rw [hu1, hr1]; simp
              have hgr : g < wr.heap.size := by have := HB.out.size; omega
              clear hq hu hu1
              go_wp2_with fail
              go_roundw
              case rel => exact ⟨p + 1, by go_num, by omega, HB⟩
              case measure => simp [intOf]; omega
            · go_wp2_with fail
              go_roundw
              case rel => exact ⟨m + 1, by go_num, by omega, HB⟩
              case measure => simp [intOf]; omega
        · have HS : Hid (Calls Tryz.prog 35 #[.pointer (some ⟨hb, 0, none⟩)] wr fun e w' => e = .returned (.bool true) ∧ Below wr.heap.size wr w') := same_walk bb bd hb _ _ _ _ _ I R S D N wr (HH.out.below HB.out (Nat.le_refl bd))
          go_wp2_with fail
          refine HS.out.mono ?_
          rintro e5 w5 ⟨rfl, hb5⟩
          have HB5 : Hid (Below w.heap.size w w5) := HB.out.trans (hb5.mono HB.out.size)
          clear hb5
          go_wp2
          go_ret
          exact ⟨rfl, HB5.out⟩
end Go.Proofs.YtebinaopncclgabGreatDoor
namespace Go.Proofs.YtebinaopncclgabGreatDoor
open Go.RowKit Go.IntWalk

set_option maxHeartbeats 400000 in
theorem num_any (e : Int) (w : World) (h : -9223372036854775808 ≤ e ∧ e ≤ 9223372036854775807) : Calls Tryz.prog 34 #[.int .i64 e] w fun q w' => q = .returned (.int .i64 e) ∧ w' = w := by
  obtain ⟨h1, h2⟩ := h
  go_enter Tryz.func34, Tryz.ntmps34
  go_wp2
  go_ret
  exact ⟨rfl, rfl⟩

/- a step, as it lies in a script -/
structure OpV where
  k : Int
  n : Int
  s : ByteArray
  t : ByteArray
  u : ByteArray
  am : Option Addr
  nm : Nat
  cm : Nat
  x0 : Int
  x1 : Int
  x2 : Int
  x3 : Int
  x4 : Int
  aS : Option Addr
  nS : Nat
  cS : Nat
  aR : Option Addr
  nR : Nat
  cR : Nat
  aL : Option Addr
  nL : Nat
  cL : Nat
def OpV.vals (o : OpV) : Array Value := #[.int .i64 o.k, .int .i64 o.n, .string o.s, .string o.t, .string o.u, .slice o.am o.nm o.cm, .int .i64 o.x0, .int .i64 o.x1, .int .i64 o.x2, .int .i64 o.x3, .int .i64 o.x4, .slice o.aS o.nS o.cS, .slice o.aR o.nR o.cR, .slice o.aL o.nL o.cL]
theorem op_box (o : OpV) (w : World) : (w.alloc (.cells o.vals 58)).heap[w.heap.size]? = some (.cells o.vals 58 (0, 0)) := heap_alloc_new w _
theorem op_below {o : OpV} {W w' : World} {b : Nat} (h : W.heap[b]? = some (.cells o.vals 58 (0, 0))) (hb : Below W.heap.size W w') : w'.heap[b]? = some (.cells o.vals 58 (0, 0)) := by
  rw [hb.block _ (Array.getElem?_eq_some_iff.1 h).1]; exact h
end Go.Proofs.YtebinaopncclgabGreatDoor
