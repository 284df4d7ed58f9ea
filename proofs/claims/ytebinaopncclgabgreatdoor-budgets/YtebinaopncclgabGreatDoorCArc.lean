/- Walks: arcs that are forced or barred. -/
import Derived.Test.YtebinaopncclgabGreatDoorOnZ
import Derived.BigQuiet
namespace Go.Proofs.YtebinaopncclgabGreatDoor
open Go.RowKit Go.IntWalk

/- the arcs of an instance in memory, from the cell o of a box on: the ways, and what is said of each arc -/
structure ArcsAt (w : World) (p o : Nat) (r : Rd) (T : Nat → Nat → Int) (vf : Value) : Prop where
  box : ∃ cs ty, w.heap[p]? = some (.cells cs ty (0, 0))
  c0 : w.cell? ⟨p, o, none⟩ = some (.int .i64 r.vans)
  c1 : w.cell? ⟨p, o + 1, none⟩ = some vf
  said : ∀ a b, a < 8 → b < 8 → w.cell? ⟨p, o + 2 + a * 8 + b, none⟩ = some (.int .i64 (T a b))
theorem ArcsAt.lt {w : World} {p o : Nat} {r : Rd} {T : Nat → Nat → Int} {vf : Value} (h : ArcsAt w p o r T vf) : p < w.heap.size := by obtain ⟨cs, ty, hc⟩ := h.box; exact (Array.getElem?_eq_some_iff.1 hc).1
theorem ArcsAt.frozen {w : World} {p o : Nat} {r : Rd} {T : Nat → Nat → Int} {vf : Value} (h : ArcsAt w p o r T vf) (k : Nat) : w.frozen? ⟨p, k, none⟩ = false := by obtain ⟨cs, ty, hc⟩ := h.box; exact frozen_of_row w p k _ _ hc
theorem ArcsAt.below {w w' : World} {p o : Nat} {r : Rd} {T : Nat → Nat → Int} {vf : Value} (h : ArcsAt w p o r T vf) (hb : Below w.heap.size w w') : ArcsAt w' p o r T vf := by
  have hl := h.lt
  obtain ⟨cs, ty, hc⟩ := h.box
  exact ⟨⟨cs, ty, by rw [hb.block _ hl]; exact hc⟩, (hb.cell (by exact hl)).trans h.c0, (hb.cell (by exact hl)).trans h.c1, fun a b ha hb' => (hb.cell (by exact hl)).trans (h.said a b ha hb')⟩
theorem ArcsAt.put {w : World} {p o a b : Nat} {r : Rd} {T : Nat → Nat → Int} {vf : Value} (h : ArcsAt w p o r T vf) (ha : a < 8) (hb : b < 8) (v : Int) : ArcsAt (w.setCell ⟨p, o + 2 + a * 8 + b, none⟩ (.int .i64 v)) p o r (upd T a b v) vf := by
  obtain ⟨⟨cs, ty, hc⟩, h0, h1, hF⟩ := h
  refine ⟨⟨_, _, heap_setCell_same w p _ _ _ _ hc⟩, ?_, ?_, fun x y hx hy => ?_⟩
  · rw [net_cells hc (hF a b ha hb) _ h0, if_neg (by omega)]
  · rw [net_cells hc (hF a b ha hb) _ h1, if_neg (by omega)]
  · rw [net_cells hc (hF a b ha hb) _ (hF x y hx hy)]
    unfold upd
    by_cases h : x = a ∧ y = b
    · rw [if_pos h, if_pos (by rw [h.1, h.2])]
    · rw [if_neg h, if_neg (by omega)]
theorem ArcsAt.other {w : World} {p o a b k : Nat} {r : Rd} {T : Nat → Nat → Int} {vf v : Value} (h : ArcsAt w p o r T vf) (ha : a < 8) (hb : b < 8) (u : Value) (hk : k < o ∨ o + 66 ≤ k) (hv : w.cell? ⟨p, k, none⟩ = some v) : (w.setCell ⟨p, o + 2 + a * 8 + b, none⟩ u).cell? ⟨p, k, none⟩ = some v := by
  obtain ⟨⟨cs, ty, hc⟩, h0, h1, hF⟩ := h
  rw [net_cells hc (hF a b ha hb) _ hv, if_neg (by omega)]
theorem below_drewN {B : Nat} {w w' : World} (h : Below B w w') (m : Nat) : Below B w (w'.drewN m) := ⟨h.os, h.tape, h.output, h.size, h.block⟩
/- two numbers that are different sites -/
def isArcP (n : Nat) (x y : Int) : Prop := (0 ≤ x ∧ x < n + 1) ∧ (0 ≤ y ∧ y < n + 1) ∧ x ≠ y
instance (n : Nat) (x y : Int) : Decidable (isArcP n x y) := by unfold isArcP; infer_instance
/- what is said of an arc -/
def saidZ (n : Nat) (T : Nat → Nat → Int) (x y : Int) : Int := if isArcP n x y then T x.toNat y.toNat else -1
def sayZ (n : Nat) (T : Nat → Nat → Int) (x y v : Int) : Nat → Nat → Int := if isArcP n x y then upd T x.toNat y.toNat v else T

set_option maxRecDepth 100000 in
set_option maxHeartbeats 1000000 in
theorem isArc_any (p o : Nat) (r : Rd) (T : Nat → Nat → Int) (ao : Option Addr) (cf n : Nat) (x y : Int) (w : World) (_hn : n ≤ 7) (h : ArcsAt w p o r T (.slice ao (n + 1 : Nat) cf)) :
    Calls Tryz.prog 198 #[.pointer (some ⟨p, o, none⟩), .int .i64 x, .int .i64 y] w fun e w' => e = .returned (.bool (decide (isArcP n x y))) ∧ Below w.heap.size w w' := by
  have h1 := h.c1
  have hl := h.lt
  by_cases hx : 0 ≤ x ∧ x < n + 1
  · obtain ⟨hx0, hx1⟩ := hx
    by_cases hy : 0 ≤ y ∧ y < n + 1
    · obtain ⟨hy0, hy1⟩ := hy
      by_cases hxy : x = y
      · have HX : Hid (decide (isArcP n x y) = false) := by show _ = _; rw [decide_eq_false_iff_not]; intro hh; exact hh.2.2 hxy
        have c3 : (x == y) = true := by simp [hxy]
        have c4 : (x != y) = false := by simp [hxy]
        clear hxy
        go_enter Tryz.func198, Tryz.ntmps198
        go_wp2_with go_in
        all_goals
          go_ret
          exact ⟨ret_bool HX.out.symm, by first | exact Below.refl _ _ | exact (Below.refl _ _).drew⟩
      · have HX : Hid (decide (isArcP n x y) = true) := by show _ = _; rw [decide_eq_true_iff]; exact ⟨⟨hx0, hx1⟩, ⟨hy0, hy1⟩, hxy⟩
        have c3 : (x == y) = false := by simpa using hxy
        have c4 : (x != y) = true := by simpa using hxy
        clear hxy
        go_enter Tryz.func198, Tryz.ntmps198
        go_wp2_with go_in
        all_goals
          go_ret
          exact ⟨ret_bool HX.out.symm, by first | exact Below.refl _ _ | exact (Below.refl _ _).drew⟩
    · have HX : Hid (decide (isArcP n x y) = false) := by show _ = _; rw [decide_eq_false_iff_not]; intro hh; exact hy hh.2.1
      by_cases hy0 : y < 0
      · clear hy
        go_enter Tryz.func198, Tryz.ntmps198
        go_wp2_with go_in
        all_goals
          go_ret
          exact ⟨ret_bool HX.out.symm, by first | exact Below.refl _ _ | exact (Below.refl _ _).drew⟩
      · have hy2 : (n : Int) + 1 ≤ y := by omega
        clear hy
        go_enter Tryz.func198, Tryz.ntmps198
        go_wp2_with go_in
        all_goals
          go_ret
          exact ⟨ret_bool HX.out.symm, by first | exact Below.refl _ _ | exact (Below.refl _ _).drew⟩
  · have HX : Hid (decide (isArcP n x y) = false) := by show _ = _; rw [decide_eq_false_iff_not]; intro hh; exact hx hh.1
    by_cases hx0 : x < 0
    · clear hx
      go_enter Tryz.func198, Tryz.ntmps198
      go_wp2_with go_in
      all_goals
        go_ret
        exact ⟨ret_bool HX.out.symm, by first | exact Below.refl _ _ | exact (Below.refl _ _).drew⟩
    · have hx2 : (n : Int) + 1 ≤ x := by omega
      clear hx
      go_enter Tryz.func198, Tryz.ntmps198
      go_wp2_with go_in
      all_goals
        go_ret
        exact ⟨ret_bool HX.out.symm, by first | exact Below.refl _ _ | exact (Below.refl _ _).drew⟩

set_option maxRecDepth 100000 in
set_option maxHeartbeats 1000000 in
theorem said_any (p o : Nat) (r : Rd) (T : Nat → Nat → Int) (ao : Option Addr) (cf n : Nat) (x y : Int) (w : World) (hn : n ≤ 7) (h : ArcsAt w p o r T (.slice ao (n + 1 : Nat) cf)) :
    Calls Tryz.prog 146 #[.pointer (some ⟨p, o, none⟩), .int .i64 x, .int .i64 y] w fun e w' => e = .returned (.int .i64 (saidZ n T x y)) ∧ Below w.heap.size w w' := by
  have HA := hid h
  have HC := hid (isArc_any p o r T ao cf n x y w hn h)
  have hl := h.lt
  clear h
  by_cases hx : isArcP n x y
  · have HX : Hid (saidZ n T x y = T x.toNat y.toNat) := by show _ = _; unfold saidZ; rw [if_pos hx]
    rw [decide_eq_true hx] at HC
    obtain ⟨⟨hx0, hx1⟩, ⟨hy0, hy1⟩, _⟩ := hx
    obtain ⟨xn, rfl⟩ : ∃ xn : Nat, x = xn := ⟨x.toNat, by omega⟩
    obtain ⟨yn, rfl⟩ : ∃ yn : Nat, y = yn := ⟨y.toNat, by omega⟩
    simp only [Int.toNat_natCast] at HX
    have jx : (xn : Int) < 8 := by omega
    have jy : (yn : Int) < 8 := by omega
    go_enter Tryz.func146, Tryz.ntmps146
    go_wp2_with fail
    refine HC.out.mono ?_
    rintro e1 w1 ⟨rfl, hb1⟩
    have hA1 := HA.out.below hb1
    have t0 := hA1.said xn yn (by omega) (by omega)
    have tl := hA1.lt
    have HB1 := hid hb1
    clear hb1 hA1
    go_wp2_with go_in
    all_goals
      go_ret
      exact ⟨ret_int HX.out.symm, by first | exact HB1.out | exact HB1.out.drew | exact below_drewN HB1.out _⟩
  · have HX : Hid (saidZ n T x y = -1) := by show _ = _; unfold saidZ; rw [if_neg hx]
    rw [decide_eq_false hx] at HC
    clear hx
    go_enter Tryz.func146, Tryz.ntmps146
    go_wp2_with fail
    refine HC.out.mono ?_
    rintro e1 w1 ⟨rfl, hb1⟩
    have HB1 := hid hb1
    clear hb1
    go_wp2_with go_in
    all_goals
      go_ret
      exact ⟨ret_int HX.out.symm, by first | exact HB1.out | exact HB1.out.drew | exact below_drewN HB1.out _⟩

set_option maxRecDepth 100000 in
set_option maxHeartbeats 1000000 in
theorem say_any (p o : Nat) (r : Rd) (T : Nat → Nat → Int) (ao : Option Addr) (cf n : Nat) (x y v : Int) (w : World) (hn : n ≤ 7) (h : ArcsAt w p o r T (.slice ao (n + 1 : Nat) cf)) :
    Calls Tryz.prog 147 #[.pointer (some ⟨p, o, none⟩), .int .i64 x, .int .i64 y, .int .i64 v] w fun e w' => e = .returned (.tuple #[]) ∧ ArcsAt w' p o r (sayZ n T x y v) (.slice ao (n + 1 : Nat) cf) ∧ (∀ k u, k < o ∨ o + 66 ≤ k → w.cell? ⟨p, k, none⟩ = some u → w'.cell? ⟨p, k, none⟩ = some u) ∧ (∀ k, k < w.heap.size → k ≠ p → w'.heap[k]? = w.heap[k]?) ∧ Below p w w' := by
  have HA := hid h
  have HC := hid (isArc_any p o r T ao cf n x y w hn h)
  have hl := h.lt
  clear h
  by_cases hx : isArcP n x y
  · have HX : Hid (sayZ n T x y v = upd T x.toNat y.toNat v) := by show _ = _; unfold sayZ; rw [if_pos hx]
    rw [decide_eq_true hx] at HC
    obtain ⟨⟨hx0, hx1⟩, ⟨hy0, hy1⟩, _⟩ := hx
    obtain ⟨xn, rfl⟩ : ∃ xn : Nat, x = xn := ⟨x.toNat, by omega⟩
    obtain ⟨yn, rfl⟩ : ∃ yn : Nat, y = yn := ⟨y.toNat, by omega⟩
    simp only [Int.toNat_natCast] at HX
    have jx : (xn : Int) < 8 := by omega
    have jy : (yn : Int) < 8 := by omega
    go_enter Tryz.func147, Tryz.ntmps147
    go_wp2_with fail
    refine HC.out.mono ?_
    rintro e1 w1 ⟨rfl, hb1⟩
    have hA1 := HA.out.below hb1
    have t0 := hA1.said xn yn (by omega) (by omega)
    have t1 := hA1.frozen (o + 2 + xn * 8 + yn)
    have tl := hA1.lt
    have HB1 := hid hb1
    have HA1 := hid hA1
    clear hb1 hA1
    go_wp2_with go_in
    all_goals
      refine bodyPost_end (v := .tuple #[]) (by simp [results, Tryz.results147, go_sem]) rfl ?_
      refine ⟨rfl, by rw [HX.out]; exact HA1.out.put (by omega) (by omega) v, fun k u hk hu => HA1.out.other (by omega) (by omega) _ hk ((HB1.out.cell (by exact hl)).trans hu), fun k hk hkp => ?_, (HB1.out.mono (Nat.le_of_lt hl)).setCell (Nat.le_refl _) _⟩
      rw [Below.heap_setCell _ _ _ _ (by exact hkp)]; exact HB1.out.block k hk
  · have HX : Hid (sayZ n T x y v = T) := by show _ = _; unfold sayZ; rw [if_neg hx]
    rw [decide_eq_false hx] at HC
    clear hx
    go_enter Tryz.func147, Tryz.ntmps147
    go_wp2_with fail
    refine HC.out.mono ?_
    rintro e1 w1 ⟨rfl, hb1⟩
    have HB1 := hid hb1
    clear hb1
    go_wp2_with go_in
    all_goals
      refine bodyPost_end (v := .tuple #[]) (by simp [results, Tryz.results147, go_sem]) rfl ?_
      exact ⟨rfl, by rw [HX.out]; exact HA.out.below HB1.out, fun k u hk hu => (HB1.out.cell (by exact hl)).trans hu, fun k hk _ => HB1.out.block k hk, HB1.out.mono (Nat.le_of_lt hl)⟩
end Go.Proofs.YtebinaopncclgabGreatDoor
