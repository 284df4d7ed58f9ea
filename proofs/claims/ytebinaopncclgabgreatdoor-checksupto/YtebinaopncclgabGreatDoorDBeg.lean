/- Walks of the document's answer: when the van of a route is where. -/
import Derived.Test.YtebinaopncclgabGreatDoorDWant
namespace Go.Proofs.YtebinaopncclgabGreatDoor
open Go.RowKit Go.IntWalk

theorem stopV_bound {r : Rd} (hok : RdOk r) {x j : Nat} (hx : 1 ≤ x ∧ x ≤ r.stops.length) (hj : 2 ≤ j ∧ j ≤ 4) : 0 ≤ stopV r x j ∧ stopV r x j ≤ 10000 := by
  have hm : x - 1 < r.stops.length := by omega
  obtain ⟨b0, b1, b2, b3, b4, hab, hsk⟩ := hok.stops _ (List.getElem_mem hm)
  have hg' : r.stops.getD (x - 1) [] = [b0, b1, b2, b3, b4] := by rw [List.getD_eq_getElem?_getD, List.getElem?_eq_getElem hm, Option.getD_some, hab]
  simp only [stopOk, Bool.and_eq_true, fit_iff, decide_eq_true_eq] at hsk
  unfold stopV
  rw [hg']
  have : j = 2 ∨ j = 3 ∨ j = 4 := by omega
  rcases this with rfl | rfl | rfl
  · show 0 ≤ b2 ∧ b2 ≤ 10000; omega
  · show 0 ≤ b3 ∧ b3 ≤ 10000; omega
  · show 0 ≤ b4 ∧ b4 ≤ 10000; omega
theorem getD_site {l : List Int} {n : Nat} (hx : ∀ x ∈ l, 0 ≤ x ∧ x < (n : Int) + 1) {i : Nat} (hi : i < l.length) : 0 ≤ l.getD i 0 ∧ l.getD i 0 < (n : Int) + 1 := by
  rw [List.getD_eq_getElem?_getD, List.getElem?_eq_getElem hi]; exact hx _ (List.getElem_mem _)
theorem beg_bound {r : Rd} {D : Nat → Nat → Int} {l : List Int} (hok : RdOk r) (hD : ∀ a b, a < r.stops.length + 1 → b < r.stops.length + 1 → -1 ≤ D a b ∧ D a b ≤ 40960000) (hx : ∀ x ∈ l, 0 ≤ x ∧ x < (r.stops.length : Int) + 1) : ∀ i, i < l.length → -(i : Int) ≤ (begS r D l i).1 ∧ (begS r D l i).1 ≤ (i : Int) * 40980000 := by
  intro i
  induction i with
  | zero => intro _; simp [begS]
  | succ i ih =>
    intro hi
    have h1 := ih (by omega)
    have hs1 := getD_site hx (show i < l.length by omega)
    have hs2 := getD_site hx hi
    have hst : 0 ≤ stayS r l i ∧ stayS r l i ≤ 10000 := by
      unfold stayS
      by_cases hp : 0 < l.getD i 0
      · rw [if_pos hp]; exact stopV_bound hok (by omega) (by omega)
      · rw [if_neg hp]; omega
    have hlg : -1 ≤ legD D l i ∧ legD D l i ≤ 40960000 := hD _ _ (by omega) (by omega)
    by_cases hz : l.getD (i + 1) 0 = 0
    · simp only [begS, if_pos hz]; omega
    · simp only [begS, if_neg hz]
      have hv := stopV_bound hok (x := (l.getD (i + 1) 0).toNat) (j := 2) (by omega) (by omega)
      unfold startS
      by_cases he : (begS r D l i).1 + stayS r l i + legD D l i < stopV r (l.getD (i + 1) 0).toNat 2
      · rw [if_pos he]; omega
      · rw [if_neg he]; omega

set_option maxRecDepth 100000 in
set_option maxHeartbeats 8000000 in
theorem begun_any (r : Rd) (D : Nat → Nat → Int) (l : List Int) (vs vr vw : Value) (gi ci : Nat) (w0 : World) (hok : RdOk r) (hs : StR w0 vs r) (hq : SqR w0 vw (r.stops.length + 1) D) (hD : ∀ a b, a < r.stops.length + 1 → b < r.stops.length + 1 → -1 ≤ D a b ∧ D a b ≤ 40960000) (hgi : gi < w0.heap.size) (hrow : ∀ j (hj : j < l.length), w0.cell? ⟨gi, j, none⟩ = some (.int .i64 l[j])) (hll : l.length ≤ 1000) (hx : ∀ x ∈ l, 0 ≤ x ∧ x < r.stops.length + 1) (h0 : l.getD 0 0 = 0) (hvr : ∃ ao n c, vr = .slice ao n c) :
    ∀ i : Nat, i < l.length → (∀ q, q < i → (begS r D l q).2 = false) → ∀ w, Below w0.heap.size w0 w → Calls Tryz.prog 110 #[.agg (ground r vs vr vw), .slice (some ⟨gi, 0, none⟩) l.length ci, .int .i64 i] w fun e w' => e = .returned (.tuple #[.int .i64 (begS r D l i).1, .bool (begS r D l i).2]) ∧ Below w.heap.size w w' := by
  obtain ⟨a1, n1, c1, rfl⟩ := hvr
  obtain ⟨af, cf, rfl, hn, hsq⟩ := hq
  obtain ⟨ast, cs, rfl, hst⟩ := hs
  have HSQ := hid hsq
  have HST := hid hst
  have HROW := hid hrow
  have HX := hid hx
  have HDD := hid hD
  have HOK := hid hok
  have HBD := hid (beg_bound hok hD hx)
  have hn7 := hok.nstops
  clear hsq hst hrow hx hD hok
  intro i
  induction i with
  | zero =>
    intro hi _ w hb
    obtain ⟨W, hW⟩ : ∃ W, W = w.alloc (.cells (ground r (.slice ast r.stops.length cs) (.slice a1 n1 c1) (.slice af (r.stops.length + 1) cf)) 109) := ⟨_, rfl⟩
    have x0 : w.cell? ⟨gi, 0, none⟩ = some (.int .i64 0) := by
      rw [hb.cell (by exact hgi), HROW.out 0 hi]
      rw [List.getD_eq_getElem?_getD, List.getElem?_eq_getElem hi, Option.getD_some] at h0
      rw [h0]
    have hgw : gi < w.heap.size := Nat.lt_of_lt_of_le hgi hb.size
    unfold ground at *
    clear hW HBD h0
    go_enter Tryz.func110, Tryz.ntmps110
    go_wp2_with go_in
    go_ret2
    exact ⟨rfl, by first | exact below1 w _ | exact (below1 w _).drew⟩
  | succ q IH =>
    intro hi hnl w hb
    obtain ⟨W, hW⟩ : ∃ W, W = w.alloc (.cells (ground r (.slice ast r.stops.length cs) (.slice a1 n1 c1) (.slice af (r.stops.length + 1) cf)) 109) := ⟨_, rfl⟩
    obtain ⟨hbW, hbox, -, -, k2, -, -, k5, -, k7⟩ := ground_box hW
    have hb0W : Below w0.heap.size w0 W := hb.trans (hbW.mono hb.size)
    have HC : Hid (∀ z : Int, z = (q : Int) → Calls Tryz.prog 110 #[.agg (ground r (.slice ast r.stops.length cs) (.slice a1 n1 c1) (.slice af (r.stops.length + 1) cf)), .slice (some ⟨gi, 0, none⟩) l.length ci, .int .i64 z] W fun e w' => e = .returned (.tuple #[.int .i64 (begS r D l q).1, .bool false]) ∧ Below W.heap.size W w') := fun z hz => by
      subst hz
      have h1 := IH (by omega) (fun p hp => hnl p (by omega)) W hb0W
      rw [hnl q (by omega)] at h1
      exact h1
    obtain ⟨x, hx⟩ : ∃ x, x = l[q] := ⟨_, rfl⟩
    obtain ⟨y, hy⟩ : ∃ y, y = l[q + 1] := ⟨_, rfl⟩
    have hx1 := HX.out x (by rw [hx]; exact List.getElem_mem _)
    have hy1 := HX.out y (by rw [hy]; exact List.getElem_mem _)
    have x0 : W.cell? ⟨gi, q, none⟩ = _ := (hb0W.cell (by exact hgi)).trans (HROW.out q (by omega))
    have y0 : W.cell? ⟨gi, q + 1, none⟩ = _ := (hb0W.cell (by exact hgi)).trans (HROW.out (q + 1) hi)
    rw [← hx] at x0
    rw [← hy] at y0
    have hxg : l.getD q 0 = x := by rw [List.getD_eq_getElem?_getD, List.getElem?_eq_getElem (by omega), Option.getD_some, hx]
    have hyg : l.getD (q + 1) 0 = y := by rw [List.getD_eq_getElem?_getD, List.getElem?_eq_getElem hi, Option.getD_some, hy]
    obtain ⟨xn, rfl⟩ : ∃ xn : Nat, x = xn := ⟨x.toNat, by omega⟩
    obtain ⟨yn, rfl⟩ : ∃ yn : Nat, y = yn := ⟨y.toNat, by omega⟩
    obtain ⟨fg, fgi, fci, rfl, hfg, hfc, hfgi, hfr⟩ := HSQ.out xn (by omega)
    have hd : W.cell? ⟨fgi, yn, none⟩ = _ := (hb0W.cell (by exact hfgi)).trans (hfr yn (by omega))
    have hfw : W.cell? ⟨fg, xn, none⟩ = _ := (hb0W.cell (by exact hfg)).trans hfc
    have HLD : Hid (legD D l q = D xn yn) := by show _ = _; unfold legD; rw [hxg, hyg]; simp
    have hdb := HDD.out xn yn (by omega) (by omega)
    generalize hdd : D xn yn = d at *
    have hgW : gi < W.heap.size := Nat.lt_of_lt_of_le hgi hb0W.size
    have hfgW : fg < W.heap.size := Nat.lt_of_lt_of_le hfg hb0W.size
    have hfgiW : fgi < W.heap.size := Nat.lt_of_lt_of_le hfgi hb0W.size
    have HSW : Hid (∀ m, m < r.stops.length → ∃ g b0 b1 b2 b3 b4, ast = some ⟨g, 0, none⟩ ∧ g < W.heap.size ∧ W.cell? ⟨g, m * 5, none⟩ = some (.int .i64 b0) ∧ W.cell? ⟨g, m * 5 + 1, none⟩ = some (.int .i64 b1) ∧ W.cell? ⟨g, m * 5 + 2, none⟩ = some (.int .i64 b2) ∧ W.cell? ⟨g, m * 5 + 3, none⟩ = some (.int .i64 b3) ∧ W.cell? ⟨g, m * 5 + 4, none⟩ = some (.int .i64 b4) ∧ (∀ j, stopV r (m + 1) j = [b0, b1, b2, b3, b4].getD j 0) ∧ (0 ≤ b1 ∧ b1 ≤ 10000) ∧ (0 ≤ b2 ∧ b2 ≤ 10000) ∧ (0 ≤ b3 ∧ b3 ≤ 10000) ∧ (0 ≤ b4 ∧ b4 ≤ 10000)) := fun m hm => by
      refine stop_at HOK.out (fun i h => ?_) hm
      obtain ⟨g, e1, e2, e3⟩ := HST.out i h
      exact ⟨g, e1, Nat.lt_of_lt_of_le e2 hb0W.size, fun j z hj hz => (hb0W.cell (by exact e2)).trans (e3 j z hj hz)⟩
    have HT0 := HBD.out q (by omega)
    have hqb : (q : Int) ≤ 1000 := by omega
    obtain ⟨t, ht⟩ : ∃ t, t = (begS r D l q).1 := ⟨_, rfl⟩
    rw [← ht] at HT0 HC
    have HNX : Hid ((begS r D l (q + 1)) = if (yn : Int) = 0 then (t + stayS r l q + d, decide (r.close < t + stayS r l q + d)) else ((if t + stayS r l q + d < stopV r yn 2 then stopV r yn 2 else t + stayS r l q + d), decide (stopV r yn 3 < (if t + stayS r l q + d < stopV r yn 2 then stopV r yn 2 else t + stayS r l q + d)))) := by
      show _ = _
      simp only [begS, hnl q (by omega), Bool.false_or, startS, HLD.out, hyg, ← ht, Int.toNat_natCast]
    have HXG := hid hxg
    have HCB := hid (headOk_iff.1 HOK.out.head)
    have hcl : 0 ≤ r.close ∧ r.close ≤ 10000 := by have := HCB.out; omega
    generalize begS r D l (q + 1) = ans at *
    have HBW := hid hbW
    have HWQ := hid hW
    have hqi : (0 : Int) ≤ (q : Int) := by omega
    have hqj : (q : Int) < (l.length : Int) := by omega
    have hq1i : (0 : Int) ≤ (q : Int) + 1 := by omega
    have hq1j : (q : Int) + 1 < (l.length : Int) := by omega
    have ix : (0 : Int) ≤ (xn : Int) := by omega
    have jx : (xn : Int) < (r.stops.length : Int) + 1 := by omega
    have iy : (0 : Int) ≤ (yn : Int) := by omega
    have jy : (yn : Int) < (r.stops.length : Int) + 1 := by omega
    have hww : IntKind.i64.wrap ((q : Int) + 1 - 1) = q := by rw [show (q : Int) + 1 - 1 = q by omega]; exact i64_fits _ (by omega)
    have hww2 : IntKind.i64.wrap (q : Int) = q := i64_fits _ (by omega)
    have HRW : Hid (W.cell? ⟨gi, q, none⟩ = some (.int .i64 xn) ∧ W.cell? ⟨gi, q + 1, none⟩ = some (.int .i64 yn) ∧ W.cell? ⟨fgi, yn, none⟩ = some (.int .i64 d) ∧ W.cell? ⟨fg, xn, none⟩ = some (.slice (some ⟨fgi, 0, none⟩) (r.stops.length + 1 : Nat) fci) ∧ W.cell? ⟨w.heap.size, 2, none⟩ = some (.int .i64 r.close) ∧ W.cell? ⟨w.heap.size, 5, none⟩ = some (.slice ast r.stops.length cs) ∧ W.cell? ⟨w.heap.size, 7, none⟩ = some (.slice (some ⟨fg, 0, none⟩) (r.stops.length + 1 : Nat) cf)) := ⟨x0, y0, hd, hfw, k2, k5, k7⟩
    clear hfr hdd hx hy hxg hyg x0 y0 hd hfw k2 k5 k7 hb0W hb hbW hW HBD ht hfc hfg hfgi HX HDD HOK HSQ HST HROW IH hnl HLD h0 HCB
    unfold ground at *
    by_cases hxz : xn = 0
    · subst hxz
      have HSY : Hid (stayS r l q = 0) := by show _ = _; unfold stayS; rw [HXG.out]; simp
      have hwt : IntKind.i64.wrap (t + d) = t + d := i64_fits _ (by omega)
      go_enter Tryz.func110, Tryz.ntmps110
      go_wp2_with fail
      rw [← HWQ.out]
      refine (HC.out _ (by omega)).mono ?_
      rintro e1 w1 ⟨rfl, hb1⟩
      have HB1 := hid hb1
      clear hb1 HC
      have x0 : w1.cell? ⟨gi, q, none⟩ = _ := (HB1.out.cell (by exact hgW)).trans HRW.out.1
      have y0 : w1.cell? ⟨gi, q + 1, none⟩ = _ := (HB1.out.cell (by exact hgW)).trans HRW.out.2.1
      have hd : w1.cell? ⟨fgi, yn, none⟩ = _ := (HB1.out.cell (by exact hfgiW)).trans HRW.out.2.2.1
      have hfw : w1.cell? ⟨fg, 0, none⟩ = _ := (HB1.out.cell (by exact hfgW)).trans HRW.out.2.2.2.1
      have k7 : w1.cell? ⟨w.heap.size, 7, none⟩ = _ := (HB1.out.cell (by exact hbox)).trans HRW.out.2.2.2.2.2.2
      have g1 : gi < w1.heap.size := Nat.lt_of_lt_of_le hgW HB1.out.size
      have g2 : fg < w1.heap.size := Nat.lt_of_lt_of_le hfgW HB1.out.size
      have g3 : fgi < w1.heap.size := Nat.lt_of_lt_of_le hfgiW HB1.out.size
      have g4 : w.heap.size < w1.heap.size := Nat.lt_of_lt_of_le hbox HB1.out.size
      go_wp2_with fail
      go_region_held3 (fun w' => w'.cell? ⟨w.heap.size, 7, none⟩ = some (.slice (some ⟨fg, 0, none⟩) (r.stops.length + 1 : Nat) cf) ∧ w'.cell? ⟨gi, q, none⟩ = some (.int .i64 (0 : Nat)) ∧ w'.cell? ⟨gi, q + 1, none⟩ = some (.int .i64 yn) ∧ w'.cell? ⟨fg, 0, none⟩ = some (.slice (some ⟨fgi, 0, none⟩) (r.stops.length + 1 : Nat) fci) ∧ w'.cell? ⟨fgi, yn, none⟩ = some (.int .i64 d)) (go_keep) (fail)
      obtain ⟨wx, hwx⟩ : ∃ wx, wx = w1.drew := ⟨_, rfl⟩
      have HBX : Hid (Below W.heap.size W wx) := by show Below _ _ _; rw [hwx]; exact HB1.out.drew
      rw [← hwx]
      clear hwx HB1 x0 y0 hd hfw k7 g1 g2 g3 g4
      rename_i hHeld
      clear hHeld
      by_cases hz : yn = 0
      · subst hz
        have y0 : wx.cell? ⟨gi, q + 1, none⟩ = _ := (HBX.out.cell (by exact hgW)).trans HRW.out.2.1
        have k2 : wx.cell? ⟨w.heap.size, 2, none⟩ = _ := (HBX.out.cell (by exact hbox)).trans HRW.out.2.2.2.2.1
        have g1 : gi < wx.heap.size := Nat.lt_of_lt_of_le hgW HBX.out.size
        have g4 : w.heap.size < wx.heap.size := Nat.lt_of_lt_of_le hbox HBX.out.size
        by_cases hcl2 : r.close < t + d
        · have HA : Hid (ans = (t + d, true)) := by show _ = _; rw [HNX.out, if_pos (show ((0 : Nat) : Int) = 0 from rfl), HSY.out, show t + 0 + d = t + d by omega, decide_eq_true hcl2]
          go_wp2_with go_in
          go_region_held3 (fun w' => w'.cell? ⟨w.heap.size, 2, none⟩ = some (.int .i64 r.close)) (go_keep) (fail)
          go_wp2
          go_ret2
          refine ⟨?_, by first | exact HBW.out.trans (HBX.out.mono HBW.out.size) | exact HBW.out.trans (HBX.out.drew.mono HBW.out.size) | exact HBW.out.trans ((HBX.out.alloc HBX.out.size _).mono HBW.out.size) | exact HBW.out.trans ((HBX.out.drew.alloc HBX.out.size _).mono HBW.out.size) | exact HBW.out.trans ((HBX.out.alloc HBX.out.size _).drew.mono HBW.out.size) | exact HBW.out.trans ((HBX.out.drew.alloc HBX.out.size _).drew.mono HBW.out.size) | exact HBW.out.trans (HBX.out.drew.drew.mono HBW.out.size)⟩
          rw [HA.out]; rfl
        · have HA : Hid (ans = (t + d, decide (r.close < t + d))) := by show _ = _; rw [HNX.out, if_pos (show ((0 : Nat) : Int) = 0 from rfl), HSY.out, show t + 0 + d = t + d by omega]
          go_wp2_with go_in
          go_region_held3 (fun w' => w'.cell? ⟨w.heap.size, 2, none⟩ = some (.int .i64 r.close)) (go_keep) (fail)
          go_wp2
          go_ret2
          refine ⟨?_, by first | exact HBW.out.trans (HBX.out.mono HBW.out.size) | exact HBW.out.trans (HBX.out.drew.mono HBW.out.size) | exact HBW.out.trans ((HBX.out.alloc HBX.out.size _).mono HBW.out.size) | exact HBW.out.trans ((HBX.out.drew.alloc HBX.out.size _).mono HBW.out.size) | exact HBW.out.trans ((HBX.out.alloc HBX.out.size _).drew.mono HBW.out.size) | exact HBW.out.trans ((HBX.out.drew.alloc HBX.out.size _).drew.mono HBW.out.size) | exact HBW.out.trans (HBX.out.drew.drew.mono HBW.out.size)⟩
          rw [HA.out]; rfl
      · obtain ⟨m, rfl⟩ : ∃ m, yn = m + 1 := ⟨yn - 1, by omega⟩
        obtain ⟨sg2, c0, c1, c2, c3, c4, es, hsg2, s0, s1, s2, s3, s4, hV, hc1, hc2, hc3, hc4⟩ := HSW.out m (by omega)
        cases es
        have y0 : wx.cell? ⟨gi, q + 1, none⟩ = _ := (HBX.out.cell (by exact hgW)).trans HRW.out.2.1
        have k5 : wx.cell? ⟨w.heap.size, 5, none⟩ = _ := (HBX.out.cell (by exact hbox)).trans HRW.out.2.2.2.2.2.1
        have g1 : gi < wx.heap.size := Nat.lt_of_lt_of_le hgW HBX.out.size
        have g4 : w.heap.size < wx.heap.size := Nat.lt_of_lt_of_le hbox HBX.out.size
        have s0 : wx.cell? _ = _ := (HBX.out.cell (by exact hsg2)).trans s0
        have s1 : wx.cell? _ = _ := (HBX.out.cell (by exact hsg2)).trans s1
        have s2 : wx.cell? _ = _ := (HBX.out.cell (by exact hsg2)).trans s2
        have s3 : wx.cell? _ = _ := (HBX.out.cell (by exact hsg2)).trans s3
        have s4 : wx.cell? _ = _ := (HBX.out.cell (by exact hsg2)).trans s4
        have g5 : sg2 < wx.heap.size := Nat.lt_of_lt_of_le hsg2 HBX.out.size
        have im : (0 : Int) ≤ (m : Int) := by omega
        have jm : (m : Int) < (r.stops.length : Int) := by omega
        have hwm : IntKind.i64.wrap ((m : Int) + 1 - 1) = m := by rw [show (m : Int) + 1 - 1 = m by omega]; exact i64_fits _ (by omega)
        have hwm2 : IntKind.i64.wrap (m : Int) = m := i64_fits _ (by omega)
        have hv2 : stopV r (m + 1) 2 = c2 := by rw [hV]; rfl
        have hv3 : stopV r (m + 1) 3 = c3 := by rw [hV]; rfl
        have HNY : Hid (ans = ((if t + d < c2 then c2 else t + d), decide (c3 < (if t + d < c2 then c2 else t + d)))) := by
          show _ = _
          rw [HNX.out, if_neg (by omega), HSY.out, hv2, hv3, show t + 0 + d = t + d by omega]
        clear hV hv2 hv3 hz
        go_wp2_with fail
        go_region_held3 (fun w' => w'.cell? ⟨w.heap.size, 5, none⟩ = some (.slice (some ⟨sg2, 0, none⟩) r.stops.length cs) ∧ w'.cell? ⟨gi, q + 1, none⟩ = some (.int .i64 ((m + 1 : Nat) : Int)) ∧ w'.cell? ⟨sg2, m * 5, none⟩ = some (.int .i64 c0) ∧ w'.cell? ⟨sg2, m * 5 + 1, none⟩ = some (.int .i64 c1) ∧ w'.cell? ⟨sg2, m * 5 + 2, none⟩ = some (.int .i64 c2) ∧ w'.cell? ⟨sg2, m * 5 + 3, none⟩ = some (.int .i64 c3) ∧ w'.cell? ⟨sg2, m * 5 + 4, none⟩ = some (.int .i64 c4)) (go_keep) (fail)
        by_cases hearly : t + d < c2
        · by_cases hlate : c3 < c2
          · have HA : Hid (ans = (c2, true)) := by show _ = _; rw [HNY.out, if_pos hearly, decide_eq_true hlate]
            go_wp2_with go_in
            go_region_held3 (fun w' => w'.cell? ⟨wx.heap.size, 3, none⟩ = some (.int .i64 c3)) (go_keep) (fail)
            go_wp2
            go_ret2
            refine ⟨?_, by first | exact HBW.out.trans (HBX.out.mono HBW.out.size) | exact HBW.out.trans (HBX.out.drew.mono HBW.out.size) | exact HBW.out.trans ((HBX.out.alloc HBX.out.size _).mono HBW.out.size) | exact HBW.out.trans ((HBX.out.drew.alloc HBX.out.size _).mono HBW.out.size) | exact HBW.out.trans ((HBX.out.alloc HBX.out.size _).drew.mono HBW.out.size) | exact HBW.out.trans ((HBX.out.drew.alloc HBX.out.size _).drew.mono HBW.out.size) | exact HBW.out.trans (HBX.out.drew.drew.mono HBW.out.size)⟩
            rw [HA.out]; rfl
          · have HA : Hid (ans = (c2, decide (c3 < c2))) := by show _ = _; rw [HNY.out, if_pos hearly]
            go_wp2_with go_in
            go_region_held3 (fun w' => w'.cell? ⟨wx.heap.size, 3, none⟩ = some (.int .i64 c3)) (go_keep) (fail)
            go_wp2
            go_ret2
            refine ⟨?_, by first | exact HBW.out.trans (HBX.out.mono HBW.out.size) | exact HBW.out.trans (HBX.out.drew.mono HBW.out.size) | exact HBW.out.trans ((HBX.out.alloc HBX.out.size _).mono HBW.out.size) | exact HBW.out.trans ((HBX.out.drew.alloc HBX.out.size _).mono HBW.out.size) | exact HBW.out.trans ((HBX.out.alloc HBX.out.size _).drew.mono HBW.out.size) | exact HBW.out.trans ((HBX.out.drew.alloc HBX.out.size _).drew.mono HBW.out.size) | exact HBW.out.trans (HBX.out.drew.drew.mono HBW.out.size)⟩
            rw [HA.out]; rfl
        · by_cases hlate : c3 < t + d
          · have HA : Hid (ans = (t + d, true)) := by show _ = _; rw [HNY.out, if_neg hearly, decide_eq_true hlate]
            go_wp2_with go_in
            go_region_held3 (fun w' => w'.cell? ⟨wx.heap.size, 3, none⟩ = some (.int .i64 c3)) (go_keep) (fail)
            go_wp2
            go_ret2
            refine ⟨?_, by first | exact HBW.out.trans (HBX.out.mono HBW.out.size) | exact HBW.out.trans (HBX.out.drew.mono HBW.out.size) | exact HBW.out.trans ((HBX.out.alloc HBX.out.size _).mono HBW.out.size) | exact HBW.out.trans ((HBX.out.drew.alloc HBX.out.size _).mono HBW.out.size) | exact HBW.out.trans ((HBX.out.alloc HBX.out.size _).drew.mono HBW.out.size) | exact HBW.out.trans ((HBX.out.drew.alloc HBX.out.size _).drew.mono HBW.out.size) | exact HBW.out.trans (HBX.out.drew.drew.mono HBW.out.size)⟩
            rw [HA.out]; rfl
          · have HA : Hid (ans = (t + d, decide (c3 < t + d))) := by show _ = _; rw [HNY.out, if_neg hearly]
            go_wp2_with go_in
            go_region_held3 (fun w' => w'.cell? ⟨wx.heap.size, 3, none⟩ = some (.int .i64 c3)) (go_keep) (fail)
            go_wp2
            go_ret2
            refine ⟨?_, by first | exact HBW.out.trans (HBX.out.mono HBW.out.size) | exact HBW.out.trans (HBX.out.drew.mono HBW.out.size) | exact HBW.out.trans ((HBX.out.alloc HBX.out.size _).mono HBW.out.size) | exact HBW.out.trans ((HBX.out.drew.alloc HBX.out.size _).mono HBW.out.size) | exact HBW.out.trans ((HBX.out.alloc HBX.out.size _).drew.mono HBW.out.size) | exact HBW.out.trans ((HBX.out.drew.alloc HBX.out.size _).drew.mono HBW.out.size) | exact HBW.out.trans (HBX.out.drew.drew.mono HBW.out.size)⟩
            rw [HA.out]; rfl
    · obtain ⟨a, rfl⟩ : ∃ a, xn = a + 1 := ⟨xn - 1, by omega⟩
      obtain ⟨sg, b0, b1, b2, b3, b4, es, hsg, t0, t1, t2, t3, t4, hV, hb1, hb2, hb3, hb4⟩ := HSW.out a (by omega)
      cases es
      have HSY : Hid (stayS r l q = b4) := by
        show _ = _
        unfold stayS
        rw [HXG.out, if_pos (by omega), show ((a + 1 : Nat) : Int).toNat = a + 1 by omega, hV]; rfl
      have hwt : IntKind.i64.wrap (t + b4) = t + b4 := i64_fits _ (by omega)
      have hwt2 : IntKind.i64.wrap (t + b4 + d) = t + b4 + d := i64_fits _ (by omega)
      have ia : (0 : Int) ≤ (a : Int) := by omega
      have ja : (a : Int) < (r.stops.length : Int) := by omega
      have hwa : IntKind.i64.wrap ((a : Int) + 1 - 1) = a := by rw [show (a : Int) + 1 - 1 = a by omega]; exact i64_fits _ (by omega)
      have hwa2 : IntKind.i64.wrap (a : Int) = a := i64_fits _ (by omega)
      clear hV t0 t1 t2 t3 hb1 hb2 hb3
      have ix2 : (0 : Int) ≤ (a : Int) + 1 := by omega
      have jx2 : (a : Int) + 1 < (r.stops.length : Int) + 1 := by omega
      have htx : ((a : Int) + 1).toNat = a + 1 := by omega
      go_enter Tryz.func110, Tryz.ntmps110
      go_wp2_with fail
      rw [← HWQ.out]
      refine (HC.out _ (by omega)).mono ?_
      rintro e1 w1 ⟨rfl, hb1⟩
      have HB1 := hid hb1
      clear hb1 HC
      have x0 : w1.cell? ⟨gi, q, none⟩ = _ := (HB1.out.cell (by exact hgW)).trans HRW.out.1
      have k5 : w1.cell? ⟨w.heap.size, 5, none⟩ = _ := (HB1.out.cell (by exact hbox)).trans HRW.out.2.2.2.2.2.1
      have g1 : gi < w1.heap.size := Nat.lt_of_lt_of_le hgW HB1.out.size
      have g4 : w.heap.size < w1.heap.size := Nat.lt_of_lt_of_le hbox HB1.out.size
      have u4 : w1.cell? _ = _ := (HB1.out.cell (by exact hsg)).trans t4
      have g5 : sg < w1.heap.size := Nat.lt_of_lt_of_le hsg HB1.out.size
      go_wp2_with fail
      go_region_held3 (fun w' => w'.cell? ⟨w.heap.size, 5, none⟩ = some (.slice (some ⟨sg, 0, none⟩) r.stops.length cs) ∧ w'.cell? ⟨gi, q, none⟩ = some (.int .i64 ((a + 1 : Nat) : Int)) ∧ w'.cell? ⟨sg, a * 5 + 4, none⟩ = some (.int .i64 b4)) (go_keep) (fail)
      obtain ⟨wy, hwy⟩ : ∃ wy, wy = w1.drew := ⟨_, rfl⟩
      have HBY : Hid (Below W.heap.size W wy) := by show Below _ _ _; rw [hwy]; exact HB1.out.drew
      rw [← hwy]
      clear hwy HB1 x0 k5 g1 g4 u4 g5
      rename_i hHeld
      clear hHeld
      have x0 : wy.cell? ⟨gi, q, none⟩ = _ := (HBY.out.cell (by exact hgW)).trans HRW.out.1
      have y0 : wy.cell? ⟨gi, q + 1, none⟩ = _ := (HBY.out.cell (by exact hgW)).trans HRW.out.2.1
      have hd : wy.cell? ⟨fgi, yn, none⟩ = _ := (HBY.out.cell (by exact hfgiW)).trans HRW.out.2.2.1
      have hfw : wy.cell? ⟨fg, a + 1, none⟩ = _ := (HBY.out.cell (by exact hfgW)).trans HRW.out.2.2.2.1
      have k7 : wy.cell? ⟨w.heap.size, 7, none⟩ = _ := (HBY.out.cell (by exact hbox)).trans HRW.out.2.2.2.2.2.2
      have g1 : gi < wy.heap.size := Nat.lt_of_lt_of_le hgW HBY.out.size
      have g2 : fg < wy.heap.size := Nat.lt_of_lt_of_le hfgW HBY.out.size
      have g3 : fgi < wy.heap.size := Nat.lt_of_lt_of_le hfgiW HBY.out.size
      have g4 : w.heap.size < wy.heap.size := Nat.lt_of_lt_of_le hbox HBY.out.size
      go_wp2_with fail
      go_region_held3 (fun w' => w'.cell? ⟨w.heap.size, 7, none⟩ = some (.slice (some ⟨fg, 0, none⟩) (r.stops.length + 1 : Nat) cf) ∧ w'.cell? ⟨gi, q, none⟩ = some (.int .i64 ((a + 1 : Nat) : Int)) ∧ w'.cell? ⟨gi, q + 1, none⟩ = some (.int .i64 yn) ∧ w'.cell? ⟨fg, a + 1, none⟩ = some (.slice (some ⟨fgi, 0, none⟩) (r.stops.length + 1 : Nat) fci) ∧ w'.cell? ⟨fgi, yn, none⟩ = some (.int .i64 d)) (go_keep) (fail)
      obtain ⟨wx, hwx⟩ : ∃ wx, wx = wy.drew := ⟨_, rfl⟩
      have HBX : Hid (Below W.heap.size W wx) := by show Below _ _ _; rw [hwx]; exact HBY.out.drew
      rw [← hwx]
      clear hwx HBY x0 y0 hd hfw k7 g1 g2 g3 g4
      rename_i hHeld
      clear hHeld
      by_cases hz : yn = 0
      · subst hz
        have y0 : wx.cell? ⟨gi, q + 1, none⟩ = _ := (HBX.out.cell (by exact hgW)).trans HRW.out.2.1
        have k2 : wx.cell? ⟨w.heap.size, 2, none⟩ = _ := (HBX.out.cell (by exact hbox)).trans HRW.out.2.2.2.2.1
        have g1 : gi < wx.heap.size := Nat.lt_of_lt_of_le hgW HBX.out.size
        have g4 : w.heap.size < wx.heap.size := Nat.lt_of_lt_of_le hbox HBX.out.size
        by_cases hcl2 : r.close < t + b4 + d
        · have HA : Hid (ans = (t + b4 + d, true)) := by show _ = _; rw [HNX.out, if_pos (show ((0 : Nat) : Int) = 0 from rfl), HSY.out, show t + b4 + d = t + b4 + d by omega, decide_eq_true hcl2]
          go_wp2_with go_in
          go_region_held3 (fun w' => w'.cell? ⟨w.heap.size, 2, none⟩ = some (.int .i64 r.close)) (go_keep) (fail)
          go_wp2
          go_ret2
          refine ⟨?_, by first | exact HBW.out.trans (HBX.out.mono HBW.out.size) | exact HBW.out.trans (HBX.out.drew.mono HBW.out.size) | exact HBW.out.trans ((HBX.out.alloc HBX.out.size _).mono HBW.out.size) | exact HBW.out.trans ((HBX.out.drew.alloc HBX.out.size _).mono HBW.out.size) | exact HBW.out.trans ((HBX.out.alloc HBX.out.size _).drew.mono HBW.out.size) | exact HBW.out.trans ((HBX.out.drew.alloc HBX.out.size _).drew.mono HBW.out.size) | exact HBW.out.trans (HBX.out.drew.drew.mono HBW.out.size)⟩
          rw [HA.out]; rfl
        · have HA : Hid (ans = (t + b4 + d, decide (r.close < t + b4 + d))) := by show _ = _; rw [HNX.out, if_pos (show ((0 : Nat) : Int) = 0 from rfl), HSY.out, show t + b4 + d = t + b4 + d by omega]
          go_wp2_with go_in
          go_region_held3 (fun w' => w'.cell? ⟨w.heap.size, 2, none⟩ = some (.int .i64 r.close)) (go_keep) (fail)
          go_wp2
          go_ret2
          refine ⟨?_, by first | exact HBW.out.trans (HBX.out.mono HBW.out.size) | exact HBW.out.trans (HBX.out.drew.mono HBW.out.size) | exact HBW.out.trans ((HBX.out.alloc HBX.out.size _).mono HBW.out.size) | exact HBW.out.trans ((HBX.out.drew.alloc HBX.out.size _).mono HBW.out.size) | exact HBW.out.trans ((HBX.out.alloc HBX.out.size _).drew.mono HBW.out.size) | exact HBW.out.trans ((HBX.out.drew.alloc HBX.out.size _).drew.mono HBW.out.size) | exact HBW.out.trans (HBX.out.drew.drew.mono HBW.out.size)⟩
          rw [HA.out]; rfl
      · obtain ⟨m, rfl⟩ : ∃ m, yn = m + 1 := ⟨yn - 1, by omega⟩
        obtain ⟨sg2, c0, c1, c2, c3, c4, es, hsg2, s0, s1, s2, s3, s4, hV, hc1, hc2, hc3, hc4⟩ := HSW.out m (by omega)
        cases es
        have y0 : wx.cell? ⟨gi, q + 1, none⟩ = _ := (HBX.out.cell (by exact hgW)).trans HRW.out.2.1
        have k5 : wx.cell? ⟨w.heap.size, 5, none⟩ = _ := (HBX.out.cell (by exact hbox)).trans HRW.out.2.2.2.2.2.1
        have g1 : gi < wx.heap.size := Nat.lt_of_lt_of_le hgW HBX.out.size
        have g4 : w.heap.size < wx.heap.size := Nat.lt_of_lt_of_le hbox HBX.out.size
        have s0 : wx.cell? _ = _ := (HBX.out.cell (by exact hsg2)).trans s0
        have s1 : wx.cell? _ = _ := (HBX.out.cell (by exact hsg2)).trans s1
        have s2 : wx.cell? _ = _ := (HBX.out.cell (by exact hsg2)).trans s2
        have s3 : wx.cell? _ = _ := (HBX.out.cell (by exact hsg2)).trans s3
        have s4 : wx.cell? _ = _ := (HBX.out.cell (by exact hsg2)).trans s4
        have g5 : sg < wx.heap.size := Nat.lt_of_lt_of_le hsg2 HBX.out.size
        have im : (0 : Int) ≤ (m : Int) := by omega
        have jm : (m : Int) < (r.stops.length : Int) := by omega
        have hwm : IntKind.i64.wrap ((m : Int) + 1 - 1) = m := by rw [show (m : Int) + 1 - 1 = m by omega]; exact i64_fits _ (by omega)
        have hwm2 : IntKind.i64.wrap (m : Int) = m := i64_fits _ (by omega)
        have hv2 : stopV r (m + 1) 2 = c2 := by rw [hV]; rfl
        have hv3 : stopV r (m + 1) 3 = c3 := by rw [hV]; rfl
        have HNY : Hid (ans = ((if t + b4 + d < c2 then c2 else t + b4 + d), decide (c3 < (if t + b4 + d < c2 then c2 else t + b4 + d)))) := by
          show _ = _
          rw [HNX.out, if_neg (by omega), HSY.out, hv2, hv3, show t + b4 + d = t + b4 + d by omega]
        clear hV hv2 hv3 hz
        go_wp2_with fail
        go_region_held3 (fun w' => w'.cell? ⟨w.heap.size, 5, none⟩ = some (.slice (some ⟨sg, 0, none⟩) r.stops.length cs) ∧ w'.cell? ⟨gi, q + 1, none⟩ = some (.int .i64 ((m + 1 : Nat) : Int)) ∧ w'.cell? ⟨sg, m * 5, none⟩ = some (.int .i64 c0) ∧ w'.cell? ⟨sg, m * 5 + 1, none⟩ = some (.int .i64 c1) ∧ w'.cell? ⟨sg, m * 5 + 2, none⟩ = some (.int .i64 c2) ∧ w'.cell? ⟨sg, m * 5 + 3, none⟩ = some (.int .i64 c3) ∧ w'.cell? ⟨sg, m * 5 + 4, none⟩ = some (.int .i64 c4)) (go_keep) (fail)
        by_cases hearly : t + b4 + d < c2
        · by_cases hlate : c3 < c2
          · have HA : Hid (ans = (c2, true)) := by show _ = _; rw [HNY.out, if_pos hearly, decide_eq_true hlate]
            go_wp2_with go_in
            go_region_held3 (fun w' => w'.cell? ⟨wx.heap.size, 3, none⟩ = some (.int .i64 c3)) (go_keep) (fail)
            go_wp2
            go_ret2
            refine ⟨?_, by first | exact HBW.out.trans (HBX.out.mono HBW.out.size) | exact HBW.out.trans (HBX.out.drew.mono HBW.out.size) | exact HBW.out.trans ((HBX.out.alloc HBX.out.size _).mono HBW.out.size) | exact HBW.out.trans ((HBX.out.drew.alloc HBX.out.size _).mono HBW.out.size) | exact HBW.out.trans ((HBX.out.alloc HBX.out.size _).drew.mono HBW.out.size) | exact HBW.out.trans ((HBX.out.drew.alloc HBX.out.size _).drew.mono HBW.out.size) | exact HBW.out.trans (HBX.out.drew.drew.mono HBW.out.size)⟩
            rw [HA.out]; rfl
          · have HA : Hid (ans = (c2, decide (c3 < c2))) := by show _ = _; rw [HNY.out, if_pos hearly]
            go_wp2_with go_in
            go_region_held3 (fun w' => w'.cell? ⟨wx.heap.size, 3, none⟩ = some (.int .i64 c3)) (go_keep) (fail)
            go_wp2
            go_ret2
            refine ⟨?_, by first | exact HBW.out.trans (HBX.out.mono HBW.out.size) | exact HBW.out.trans (HBX.out.drew.mono HBW.out.size) | exact HBW.out.trans ((HBX.out.alloc HBX.out.size _).mono HBW.out.size) | exact HBW.out.trans ((HBX.out.drew.alloc HBX.out.size _).mono HBW.out.size) | exact HBW.out.trans ((HBX.out.alloc HBX.out.size _).drew.mono HBW.out.size) | exact HBW.out.trans ((HBX.out.drew.alloc HBX.out.size _).drew.mono HBW.out.size) | exact HBW.out.trans (HBX.out.drew.drew.mono HBW.out.size)⟩
            rw [HA.out]; rfl
        · by_cases hlate : c3 < t + b4 + d
          · have HA : Hid (ans = (t + b4 + d, true)) := by show _ = _; rw [HNY.out, if_neg hearly, decide_eq_true hlate]
            go_wp2_with go_in
            go_region_held3 (fun w' => w'.cell? ⟨wx.heap.size, 3, none⟩ = some (.int .i64 c3)) (go_keep) (fail)
            go_wp2
            go_ret2
            refine ⟨?_, by first | exact HBW.out.trans (HBX.out.mono HBW.out.size) | exact HBW.out.trans (HBX.out.drew.mono HBW.out.size) | exact HBW.out.trans ((HBX.out.alloc HBX.out.size _).mono HBW.out.size) | exact HBW.out.trans ((HBX.out.drew.alloc HBX.out.size _).mono HBW.out.size) | exact HBW.out.trans ((HBX.out.alloc HBX.out.size _).drew.mono HBW.out.size) | exact HBW.out.trans ((HBX.out.drew.alloc HBX.out.size _).drew.mono HBW.out.size) | exact HBW.out.trans (HBX.out.drew.drew.mono HBW.out.size)⟩
            rw [HA.out]; rfl
          · have HA : Hid (ans = (t + b4 + d, decide (c3 < t + b4 + d))) := by show _ = _; rw [HNY.out, if_neg hearly]
            go_wp2_with go_in
            go_region_held3 (fun w' => w'.cell? ⟨wx.heap.size, 3, none⟩ = some (.int .i64 c3)) (go_keep) (fail)
            go_wp2
            go_ret2
            refine ⟨?_, by first | exact HBW.out.trans (HBX.out.mono HBW.out.size) | exact HBW.out.trans (HBX.out.drew.mono HBW.out.size) | exact HBW.out.trans ((HBX.out.alloc HBX.out.size _).mono HBW.out.size) | exact HBW.out.trans ((HBX.out.drew.alloc HBX.out.size _).mono HBW.out.size) | exact HBW.out.trans ((HBX.out.alloc HBX.out.size _).drew.mono HBW.out.size) | exact HBW.out.trans ((HBX.out.drew.alloc HBX.out.size _).drew.mono HBW.out.size) | exact HBW.out.trans (HBX.out.drew.drew.mono HBW.out.size)⟩
            rw [HA.out]; rfl
end Go.Proofs.YtebinaopncclgabGreatDoor
