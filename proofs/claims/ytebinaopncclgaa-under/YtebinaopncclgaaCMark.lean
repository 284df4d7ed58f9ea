/- Walks: the arcs of a text are marked. -/
import Derived.Test.YtebinaopncclgaaSqP
import Derived.BigQuiet
namespace Go.Proofs.Ytebinaopncclgaa
open Go.RowKit Go.IntWalk

/- the arcs of an instance in memory, from the cell o of a box on: the ways, and what is said of each arc -/
structure ArcsAt (w : World) (p o : Nat) (r : Rd) (T : Nat → Nat → Int) (vf : Value) : Prop where
  box : ∃ cs ty, w.heap[p]? = some (.cells cs ty (0, 0))
  c0 : w.cell? ⟨p, o, none⟩ = some (.int .i64 r.vans)
  c1 : w.cell? ⟨p, o + 1, none⟩ = some vf
  said : ∀ a b, a < 8 → b < 8 → w.cell? ⟨p, o + 2 + a * 8 + b, none⟩ = some (.int .i64 (T a b))
theorem ArcsAt.lt {w : World} {p o : Nat} {r : Rd} {T : Nat → Nat → Int} {vf : Value} (h : ArcsAt w p o r T vf) : p < w.heap.size := by obtain ⟨cs, ty, hc⟩ := h.box; exact (Array.getElem?_eq_some_iff.1 hc).1
theorem ArcsAt.frozen {w : World} {p o : Nat} {r : Rd} {T : Nat → Nat → Int} {vf : Value} (h : ArcsAt w p o r T vf) (k : Nat) : w.frozen? ⟨p, k, none⟩ = false := by obtain ⟨cs, ty, hc⟩ := h.box; exact frozen_of_row w p k _ _ hc
theorem ArcsAt.below {w w' : World} {p o : Nat} {r : Rd} {T : Nat → Nat → Int} {vf : Value} (h : ArcsAt w p o r T vf) (hb : Below w.heap.size w w') : ArcsAt w' p o r T vf := by
  have hl := h.lt
  obtain ⟨cs, ty, hc⟩ := h.box
  exact ⟨⟨cs, ty, by rw [hb.block _ hl]; exact hc⟩, (hb.cell (by exact hl)).trans h.c0, (hb.cell (by exact hl)).trans h.c1, fun a b ha hb' => (hb.cell (by exact hl)).trans (h.said a b ha hb')⟩
theorem ArcsAt.put {w : World} {p o a b : Nat} {r : Rd} {T : Nat → Nat → Int} {vf : Value} (h : ArcsAt w p o r T vf) (ha : a < 8) (hb : b < 8) (v : Int) : ArcsAt (w.setCell ⟨p, o + 2 + a * 8 + b, none⟩ (.int .i64 v)) p o r (upd T a b v) vf := by
  obtain ⟨⟨cs, ty, hc⟩, h0, h1, hF⟩ := h
  refine ⟨⟨_, _, heap_setCell_same w p _ _ _ _ hc⟩, ?_, ?_, fun x y hx hy => ?_⟩
  · rw [net_cells hc (hF a b ha hb) _ h0, if_neg (by omega)]
  · rw [net_cells hc (hF a b ha hb) _ h1, if_neg (by omega)]
  · rw [net_cells hc (hF a b ha hb) _ (hF x y hx hy)]
    unfold upd
    by_cases h : x = a ∧ y = b
    · rw [if_pos h, if_pos (by rw [h.1, h.2])]
    · rw [if_neg h, if_neg (by omega)]
theorem ArcsAt.other {w : World} {p o a b k : Nat} {r : Rd} {T : Nat → Nat → Int} {vf v : Value} (h : ArcsAt w p o r T vf) (ha : a < 8) (hb : b < 8) (u : Value) (hk : k < o ∨ o + 66 ≤ k) (hv : w.cell? ⟨p, k, none⟩ = some v) : (w.setCell ⟨p, o + 2 + a * 8 + b, none⟩ u).cell? ⟨p, k, none⟩ = some v := by
  obtain ⟨⟨cs, ty, hc⟩, h0, h1, hF⟩ := h
  rw [net_cells hc (hF a b ha hb) _ hv, if_neg (by omega)]
theorem below_drewN {B : Nat} {w w' : World} (h : Below B w w') (m : Nat) : Below B w (w'.drewN m) := ⟨h.os, h.tape, h.output, h.size, h.block⟩
/- two numbers that are different sites -/
def isArcP (n : Nat) (x y : Int) : Prop := (0 ≤ x ∧ x < n + 1) ∧ (0 ≤ y ∧ y < n + 1) ∧ x ≠ y
instance (n : Nat) (x y : Int) : Decidable (isArcP n x y) := by unfold isArcP; infer_instance
/- what is said of an arc -/
def saidZ (n : Nat) (T : Nat → Nat → Int) (x y : Int) : Int := if isArcP n x y then T x.toNat y.toNat else -1
def sayZ (n : Nat) (T : Nat → Nat → Int) (x y v : Int) : Nat → Nat → Int := if isArcP n x y then upd T x.toNat y.toNat v else T

set_option maxRecDepth 100000 in
set_option maxHeartbeats 1000000 in
theorem isArc_any (p o : Nat) (r : Rd) (T : Nat → Nat → Int) (ao : Option Addr) (cf n : Nat) (x y : Int) (w : World) (_hn : n ≤ 7) (h : ArcsAt w p o r T (.slice ao (n + 1 : Nat) cf)) :
    Calls Try.prog 82 #[.pointer (some ⟨p, o, none⟩), .int .i64 x, .int .i64 y] w fun e w' => e = .returned (.bool (decide (isArcP n x y))) ∧ Below w.heap.size w w' := by
  have h1 := h.c1
  have hl := h.lt
  by_cases hx : 0 ≤ x ∧ x < n + 1
  · obtain ⟨hx0, hx1⟩ := hx
    by_cases hy : 0 ≤ y ∧ y < n + 1
    · obtain ⟨hy0, hy1⟩ := hy
      by_cases hxy : x = y
      · have HX : Hid (decide (isArcP n x y) = false) := by show _ = _; rw [decide_eq_false_iff_not]; intro hh; exact hh.2.2 hxy
        have c3 : (x == y) = true := by simp [hxy]
        have c4 : (x != y) = false := by simp [hxy]
        clear hxy
        go_enter Try.func82, Try.ntmps82
        go_wp2_with go_in
        all_goals
          go_ret
          exact ⟨ret_bool HX.out.symm, by first | exact Below.refl _ _ | exact (Below.refl _ _).drew⟩
      · have HX : Hid (decide (isArcP n x y) = true) := by show _ = _; rw [decide_eq_true_iff]; exact ⟨⟨hx0, hx1⟩, ⟨hy0, hy1⟩, hxy⟩
        have c3 : (x == y) = false := by simpa using hxy
        have c4 : (x != y) = true := by simpa using hxy
        clear hxy
        go_enter Try.func82, Try.ntmps82
        go_wp2_with go_in
        all_goals
          go_ret
          exact ⟨ret_bool HX.out.symm, by first | exact Below.refl _ _ | exact (Below.refl _ _).drew⟩
    · have HX : Hid (decide (isArcP n x y) = false) := by show _ = _; rw [decide_eq_false_iff_not]; intro hh; exact hy hh.2.1
      by_cases hy0 : y < 0
      · clear hy
        go_enter Try.func82, Try.ntmps82
        go_wp2_with go_in
        all_goals
          go_ret
          exact ⟨ret_bool HX.out.symm, by first | exact Below.refl _ _ | exact (Below.refl _ _).drew⟩
      · have hy2 : (n : Int) + 1 ≤ y := by omega
        clear hy
        go_enter Try.func82, Try.ntmps82
        go_wp2_with go_in
        all_goals
          go_ret
          exact ⟨ret_bool HX.out.symm, by first | exact Below.refl _ _ | exact (Below.refl _ _).drew⟩
  · have HX : Hid (decide (isArcP n x y) = false) := by show _ = _; rw [decide_eq_false_iff_not]; intro hh; exact hx hh.1
    by_cases hx0 : x < 0
    · clear hx
      go_enter Try.func82, Try.ntmps82
      go_wp2_with go_in
      all_goals
        go_ret
        exact ⟨ret_bool HX.out.symm, by first | exact Below.refl _ _ | exact (Below.refl _ _).drew⟩
    · have hx2 : (n : Int) + 1 ≤ x := by omega
      clear hx
      go_enter Try.func82, Try.ntmps82
      go_wp2_with go_in
      all_goals
        go_ret
        exact ⟨ret_bool HX.out.symm, by first | exact Below.refl _ _ | exact (Below.refl _ _).drew⟩

set_option maxRecDepth 100000 in
set_option maxHeartbeats 1000000 in
theorem said_any (p o : Nat) (r : Rd) (T : Nat → Nat → Int) (ao : Option Addr) (cf n : Nat) (x y : Int) (w : World) (hn : n ≤ 7) (h : ArcsAt w p o r T (.slice ao (n + 1 : Nat) cf)) :
    Calls Try.prog 77 #[.pointer (some ⟨p, o, none⟩), .int .i64 x, .int .i64 y] w fun e w' => e = .returned (.int .i64 (saidZ n T x y)) ∧ Below w.heap.size w w' := by
  have HA := hid h
  have HC := hid (isArc_any p o r T ao cf n x y w hn h)
  have hl := h.lt
  clear h
  by_cases hx : isArcP n x y
  · have HX : Hid (saidZ n T x y = T x.toNat y.toNat) := by show _ = _; unfold saidZ; rw [if_pos hx]
    rw [decide_eq_true hx] at HC
    obtain ⟨⟨hx0, hx1⟩, ⟨hy0, hy1⟩, _⟩ := hx
    obtain ⟨xn, rfl⟩ : ∃ xn : Nat, x = xn := ⟨x.toNat, by omega⟩
    obtain ⟨yn, rfl⟩ : ∃ yn : Nat, y = yn := ⟨y.toNat, by omega⟩
    simp only [Int.toNat_natCast] at HX
    have jx : (xn : Int) < 8 := by omega
    have jy : (yn : Int) < 8 := by omega
    go_enter Try.func77, Try.ntmps77
    go_wp2_with fail
    refine HC.out.mono ?_
    rintro e1 w1 ⟨rfl, hb1⟩
    have hA1 := HA.out.below hb1
    have t0 := hA1.said xn yn (by omega) (by omega)
    have tl := hA1.lt
    have HB1 := hid hb1
    clear hb1 hA1
    go_wp2_with go_in
    all_goals
      go_ret
      exact ⟨ret_int HX.out.symm, by first | exact HB1.out | exact HB1.out.drew | exact below_drewN HB1.out _⟩
  · have HX : Hid (saidZ n T x y = -1) := by show _ = _; unfold saidZ; rw [if_neg hx]
    rw [decide_eq_false hx] at HC
    clear hx
    go_enter Try.func77, Try.ntmps77
    go_wp2_with fail
    refine HC.out.mono ?_
    rintro e1 w1 ⟨rfl, hb1⟩
    have HB1 := hid hb1
    clear hb1
    go_wp2_with go_in
    all_goals
      go_ret
      exact ⟨ret_int HX.out.symm, by first | exact HB1.out | exact HB1.out.drew | exact below_drewN HB1.out _⟩

set_option maxRecDepth 100000 in
set_option maxHeartbeats 1000000 in
theorem say_any (p o : Nat) (r : Rd) (T : Nat → Nat → Int) (ao : Option Addr) (cf n : Nat) (x y v : Int) (w : World) (hn : n ≤ 7) (h : ArcsAt w p o r T (.slice ao (n + 1 : Nat) cf)) :
    Calls Try.prog 78 #[.pointer (some ⟨p, o, none⟩), .int .i64 x, .int .i64 y, .int .i64 v] w fun e w' => e = .returned (.tuple #[]) ∧ ArcsAt w' p o r (sayZ n T x y v) (.slice ao (n + 1 : Nat) cf) ∧ (∀ k u, k < o ∨ o + 66 ≤ k → w.cell? ⟨p, k, none⟩ = some u → w'.cell? ⟨p, k, none⟩ = some u) ∧ (∀ k, k < w.heap.size → k ≠ p → w'.heap[k]? = w.heap[k]?) ∧ Below p w w' := by
  have HA := hid h
  have HC := hid (isArc_any p o r T ao cf n x y w hn h)
  have hl := h.lt
  clear h
  by_cases hx : isArcP n x y
  · have HX : Hid (sayZ n T x y v = upd T x.toNat y.toNat v) := by show _ = _; unfold sayZ; rw [if_pos hx]
    rw [decide_eq_true hx] at HC
    obtain ⟨⟨hx0, hx1⟩, ⟨hy0, hy1⟩, _⟩ := hx
    obtain ⟨xn, rfl⟩ : ∃ xn : Nat, x = xn := ⟨x.toNat, by omega⟩
    obtain ⟨yn, rfl⟩ : ∃ yn : Nat, y = yn := ⟨y.toNat, by omega⟩
    simp only [Int.toNat_natCast] at HX
    have jx : (xn : Int) < 8 := by omega
    have jy : (yn : Int) < 8 := by omega
    go_enter Try.func78, Try.ntmps78
    go_wp2_with fail
    refine HC.out.mono ?_
    rintro e1 w1 ⟨rfl, hb1⟩
    have hA1 := HA.out.below hb1
    have t0 := hA1.said xn yn (by omega) (by omega)
    have t1 := hA1.frozen (o + 2 + xn * 8 + yn)
    have tl := hA1.lt
    have HB1 := hid hb1
    have HA1 := hid hA1
    clear hb1 hA1
    go_wp2_with go_in
    all_goals
      refine bodyPost_end (v := .tuple #[]) (by simp [results, Try.results78, go_sem]) rfl ?_
      refine ⟨rfl, by rw [HX.out]; exact HA1.out.put (by omega) (by omega) v, fun k u hk hu => HA1.out.other (by omega) (by omega) _ hk ((HB1.out.cell (by exact hl)).trans hu), fun k hk hkp => ?_, (HB1.out.mono (Nat.le_of_lt hl)).setCell (Nat.le_refl _) _⟩
      rw [Below.heap_setCell _ _ _ _ (by exact hkp)]; exact HB1.out.block k hk
  · have HX : Hid (sayZ n T x y v = T) := by show _ = _; unfold sayZ; rw [if_neg hx]
    rw [decide_eq_false hx] at HC
    clear hx
    go_enter Try.func78, Try.ntmps78
    go_wp2_with fail
    refine HC.out.mono ?_
    rintro e1 w1 ⟨rfl, hb1⟩
    have HB1 := hid hb1
    clear hb1
    go_wp2_with go_in
    all_goals
      refine bodyPost_end (v := .tuple #[]) (by simp [results, Try.results78, go_sem]) rfl ?_
      exact ⟨rfl, by rw [HX.out]; exact HA.out.below HB1.out, fun k u hk hu => (HB1.out.cell (by exact hl)).trans hu, fun k hk _ => HB1.out.block k hk, HB1.out.mono (Nat.le_of_lt hl)⟩
end Go.Proofs.Ytebinaopncclgaa
namespace Go.Proofs.Ytebinaopncclgaa
open Go.RowKit Go.IntWalk

/- the arcs of a text, the first k of them -/
def arcX (l : List UInt8) (i : Nat) : Int := ((l.getD i 0).toNat : Int) - 48
def mkGo (n : Nat) (what : Int) (T : Nat → Nat → Int) (l : List UInt8) : Nat → Option (Nat → Nat → Int)
  | 0 => some T
  | k + 1 => match mkGo n what T l k with
    | none => none
    | some T' => if saidZ n T' (arcX l (2 * k)) (arcX l (2 * k + 1)) = 0 then some (sayZ n T' (arcX l (2 * k)) (arcX l (2 * k + 1)) what) else none
theorem mkGo_none (n : Nat) (what : Int) (T : Nat → Nat → Int) (l : List UInt8) (k j : Nat) (h : mkGo n what T l k = none) : mkGo n what T l (k + j) = none := by
  induction j with
  | zero => exact h
  | succ j ih => rw [← Nat.add_assoc]; unfold mkGo; rw [ih]
def markS (n : Nat) (what : Int) (T : Nat → Nat → Int) (l : List UInt8) : Option (Nat → Nat → Int) := if l.length % 2 ≠ 0 then none else mkGo n what T l (l.length / 2)

set_option maxRecDepth 100000 in
set_option maxHeartbeats 4000000 in
theorem mark_any (p o : Nat) (r : Rd) (T : Nat → Nat → Int) (ao : Option Addr) (cf n : Nat) (what : Int) (s : ByteArray) (w : World) (hn : n ≤ 7) (hs : s.size ≤ maxLen) (h : ArcsAt w p o r T (.slice ao (n + 1 : Nat) cf)) :
    Calls Try.prog 62 #[.pointer (some ⟨p, o, none⟩), .string s, .int .i64 what] w fun e w' => (markS n what T s.data.toList = none → e = .returned (.int .i64 13)) ∧ (∀ T', markS n what T s.data.toList = some T' → e = .returned (.int .i64 0) ∧ ArcsAt w' p o r T' (.slice ao (n + 1 : Nat) cf)) ∧ Below p w w' := by
  unfold maxLen at hs
  have hlen : s.data.toList.length = s.size := by simp
  have HG : Hid (∀ i (h : i < s.size), arcX s.data.toList i = (s[i].toNat : Int) - 48) := fun i hi => by unfold arcX; rw [List.getD_eq_getElem?_getD, List.getElem?_eq_getElem (by omega)]; rfl
  have HL := hid hlen
  have HA := hid h
  clear h hlen
  by_cases hodd : s.size % 2 = 0
  · have HM : Hid (markS n what T s.data.toList = mkGo n what T s.data.toList (s.size / 2)) := by show _ = _; unfold markS; rw [HL.out, if_neg (by omega)]
    have e0 : ((s.size : Int) % 2 != 0) = false := by simp; omega
    obtain ⟨m, hm⟩ : ∃ m, s.size = 2 * m := ⟨s.size / 2, by omega⟩
    have HM2 : Hid (markS n what T s.data.toList = mkGo n what T s.data.toList m) := by show _ = _; rw [HM.out, show s.size / 2 = m by omega]
    have HSM := hid hm
    go_enter Try.func62, Try.ntmps62
    have hm62 : m ≤ 4611686018427387903 := by omega
    have hsz2 : s.size ≤ 2 * m := by omega
    have hsz3 : 2 * m ≤ s.size := by omega
    have hpl := HA.out.lt
    clear hodd hm HM
    go_wp2_with fail
    go_loopw [7] (fun i wr => ∃ (k : Nat) (T' : Nat → Nat → Int), k ≤ m ∧ i = .int .i64 (2 * k : Nat) ∧ Hid (mkGo n what T s.data.toList k = some T') ∧ Hid (ArcsAt wr p o r T' (.slice ao (n + 1 : Nat) cf)) ∧ Hid (Below p w wr)) (fun i _ => 2 * m - (intOf i).toNat)
    case atStart => exact ⟨0, T, Nat.zero_le _, rfl, rfl, HA, Below.refl _ _⟩
    case round =>
      clear HA
      obtain ⟨k, T', hk, rfl, HK, HA, HB⟩ := hrel
      by_cases hlt : k < m
      · have hi0 : 2 * k < s.size := by omega
        have hi1 : 2 * k + 1 < s.size := by omega
        have hb0 : s[2 * k].toNat < 256 := s[2 * k].toNat_lt
        have hb1 : s[2 * k + 1].toNat < 256 := s[2 * k + 1].toNat_lt
        obtain ⟨x, hx⟩ : ∃ x : Int, x = (s[2 * k].toNat : Int) - 48 := ⟨_, rfl⟩
        obtain ⟨y, hy⟩ : ∃ y : Int, y = (s[2 * k + 1].toNat : Int) - 48 := ⟨_, rfl⟩
        have HN : Hid (mkGo n what T s.data.toList (k + 1) = if saidZ n T' x y = 0 then some (sayZ n T' x y what) else none) := by
          show _ = _
          have h1 := HG.out (2 * k) hi0
          have h2 := HG.out (2 * k + 1) hi1
          conv => lhs; unfold mkGo
          rw [HK.out, h1, h2, hx, hy]
        have HC0 := hid (said_any p o r T' ao cf n x y wr hn HA.out)
        have HC1 : Hid (∀ W, Below wr.heap.size wr W → _) := fun W hW => say_any p o r T' ao cf n x y what W hn (HA.out.below hW)
        have HNO : Hid (mkGo n what T s.data.toList (k + 1) = none → markS n what T s.data.toList = none) := fun h => by
          have h3 := mkGo_none n what T s.data.toList (k + 1) (m - (k + 1)) h
          rw [show k + 1 + (m - (k + 1)) = m by omega] at h3
          rw [HM2.out, h3]
        have hi2 : (2 : Int) * (k : Int) + 1 < (s.size : Int) := by omega
        rw [hx, hy] at HC0 HC1
        clear HK
        by_cases hx0 : saidZ n T' x y = 0
        · have HX : Hid (mkGo n what T s.data.toList (k + 1) = some (sayZ n T' x y what)) := by show _ = _; rw [HN.out, if_pos hx0]
          rw [hx, hy] at hx0
          have HHX := hid hx
          have HHY := hid hy
          clear HNO HN hx hy
          go_wp2_with fail
          refine HC0.out.mono ?_
          rintro e1 w1 ⟨rfl, hb1⟩
          rw [hx0]
          have HB1 := hid hb1
          clear hb1 hx0
          go_wp2_with fail
          refine (HC1.out _ HB1.out).mono ?_
          rintro e2 w2 ⟨rfl, hA2, _, _, hb2⟩
          have HA2 := hid hA2
          have HBW : Hid (Below p w w2) := (HB.out.trans (HB1.out.mono (Nat.le_of_lt HA.out.lt))).trans hb2
          clear hb2 hA2
          rw [← HHX.out, ← HHY.out] at HA2
          go_wp2_with go_in
          go_roundw
          case rel => exact ⟨k + 1, sayZ n T' x y what, by omega, by go_num, HX, HA2, HBW⟩
          case measure => simp [intOf]; omega
        · have HX := hid (HNO.out (by rw [HN.out, if_neg hx0]))
          rw [hx, hy] at hx0
          generalize saidZ n T' ((s[2 * k].toNat : Int) - 48) ((s[2 * k + 1].toNat : Int) - 48) = z at *
          have c4 : (z != 0) = true := by simpa using hx0
          clear HNO HN hx0 hx hy
          go_wp2_with fail
          refine HC0.out.mono ?_
          rintro e1 w1 ⟨rfl, hb1⟩
          have HBW : Hid (Below p w w1) := HB.out.trans (hb1.mono (Nat.le_of_lt HA.out.lt))
          clear hb1
          go_wp2_with go_in
          go_ret
          exact ⟨fun _ => rfl, fun T' e => (by rw [HX.out] at e; cases e), by first | exact below_drewN HBW.out _ | exact HBW.out⟩
      · have hke : k = m := by omega
        have HF : Hid (markS n what T s.data.toList = some T') := by show _ = _; rw [HM2.out, ← hke]; exact HK.out
        clear hke
        go_wp2_with go_in
        go_ret
        exact ⟨fun e => (by rw [HF.out] at e; cases e), fun T2 e => (by rw [HF.out] at e; cases e; exact ⟨rfl, HA.out⟩), HB.out⟩
  · have HM : Hid (markS n what T s.data.toList = none) := by show _ = _; unfold markS; rw [HL.out, if_pos hodd]
    have e0 : ((s.size : Int) % 2 != 0) = true := by simp; omega
    go_enter Try.func62, Try.ntmps62
    go_wp2_with go_in
    all_goals
      go_ret
      exact ⟨fun _ => rfl, fun T' e => (by rw [HM.out] at e; cases e), Below.refl _ _⟩
end Go.Proofs.Ytebinaopncclgaa
