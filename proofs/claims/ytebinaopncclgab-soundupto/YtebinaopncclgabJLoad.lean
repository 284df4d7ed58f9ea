/- Walks: the loads of a plan's routes. -/
import Derived.Test.YtebinaopncclgabJRoute
namespace Go.Proofs.Ytebinaopncclgab
open Go.RowKit Go.IntWalk

/- routes that are read -/
def RtR (w : World) (v : Value) (L : List (List Int)) : Prop :=
  ∃ ao c, v = .slice ao L.length c ∧ L.length ≤ 1000 ∧ ∀ i (h : i < L.length), ∃ g gi ci, ao = some ⟨g, 0, none⟩ ∧ g < w.heap.size ∧ w.cell? ⟨g, i, none⟩ = some (.slice (some ⟨gi, 0, none⟩) L[i].length ci) ∧ gi < w.heap.size ∧ ∀ j (hj : j < L[i].length), w.cell? ⟨gi, j, none⟩ = some (.int .i64 L[i][j])
theorem Rts.read {w : World} {B U : Nat} {v : Value} {L : List (List Int)} {vs : List Value} (h : Rts w B U v L vs) (hl : L.length ≤ 1000) : RtR w v L := by
  obtain ⟨ao, c, hv, _, _⟩ := own_val h.own
  rw [h.len] at hv
  refine ⟨ao, c, hv, hl, fun i hi => ?_⟩
  obtain ⟨g, c', gi, ci, e, h1, h2, h3, h4⟩ := h.at hi
  rw [hv] at e
  cases e
  exact ⟨g, gi, ci, rfl, h1, h2, h3, h4⟩
theorem RtR.below {w w' : World} {v : Value} {L : List (List Int)} (h : RtR w v L) (hb : Below w.heap.size w w') : RtR w' v L := by
  obtain ⟨ao, c, h1, h2, h3⟩ := h
  refine ⟨ao, c, h1, h2, fun i hi => ?_⟩
  obtain ⟨g, gi, ci, k1, k2, k3, k4, k5⟩ := h3 i hi
  exact ⟨g, gi, ci, k1, Nat.lt_of_lt_of_le k2 hb.size, (hb.cell (by exact k2)).trans k3, Nat.lt_of_lt_of_le k4 hb.size, fun j hj => (hb.cell (by exact k4)).trans (k5 j hj)⟩

/- the k-th way of a route -/
def legD (D : Nat → Nat → Int) (l : List Int) (k : Nat) : Int := D (l.getD k 0).toNat (l.getD (k + 1) 0).toNat
def wayOk (D : Nat → Nat → Int) (l : List Int) : Bool := (List.range (l.length - 1)).all fun k => decide (legD D l k ≠ -1)

set_option maxRecDepth 100000 in
set_option maxHeartbeats 2000000 in
theorem allHaveWays_any (p n : Nat) (D : Nat → Nat → Int) (L : List (List Int)) (vf v : Value) (w : World) (hp : p < w.heap.size) (hf : w.cell? ⟨p, 7, none⟩ = some vf) (hq : SqR w vf n D) (hr : RtR w v L) (hx : ∀ l ∈ L, l.length ≤ 1000 ∧ ∀ x ∈ l, 0 ≤ x ∧ x < n) :
    Calls Try.prog 55 #[.pointer (some ⟨p, 0, none⟩), v] w fun e w' => e = .returned (.bool (L.all (wayOk D))) ∧ Below w.heap.size w w' := by
  obtain ⟨af, cf, rfl, hn, hsq⟩ := hq
  obtain ⟨ao, co, rfl, hL, hrt⟩ := hr
  have HSQ := hid hsq
  have HRT := hid hrt
  have HX := hid hx
  clear hsq hrt hx
  go_enter Try.func55, Try.ntmps55
  go_wp2_with fail
  go_loopw [5] (fun i wr => ∃ a : Nat, a ≤ L.length ∧ i = .int .i64 a ∧ Hid ((L.take a).all (wayOk D) = true) ∧ Hid (Below w.heap.size w wr)) (fun i _ => L.length - (intOf i).toNat)
  case atStart => exact ⟨0, Nat.zero_le _, rfl, rfl, Below.refl _ _⟩
  case round =>
    obtain ⟨a, ha, rfl, HA, HB⟩ := hrel
    by_cases hlt : a < L.length
    · obtain ⟨g, gi, ci, rfl, hg, hc, hgi, hrow⟩ := HRT.out a hlt
      obtain ⟨l, hl⟩ : ∃ l, l = L[a] := ⟨_, rfl⟩
      have hmem : l ∈ L := by rw [hl]; exact List.getElem_mem _
      have hll := (HX.out l hmem).1
      have HLX : Hid (∀ x ∈ l, 0 ≤ x ∧ x < n) := (HX.out l hmem).2
      have HROW : Hid (∀ j (hj : j < l.length), w.cell? ⟨gi, j, none⟩ = some (.int .i64 l[j])) := by
        intro j hj; subst hl; exact hrow j hj
      rw [← hl] at hc
      have HC := hid hc
      have hc : wr.cell? ⟨g, a, none⟩ = _ := (HB.out.cell (by exact hg)).trans HC.out
      have hgw : g < wr.heap.size := Nat.lt_of_lt_of_le hg HB.out.size
      have HT : Hid ((L.take (a + 1)).all (wayOk D) = wayOk D l) := by
        show _ = _
        rw [List.take_succ_eq_append_getElem hlt, List.all_append, HA.out, ← hl]; simp
      have HNO : Hid (wayOk D l = false → L.all (wayOk D) = false) := fun h => List.all_eq_false.2 ⟨l, hmem, by rw [h]; simp⟩
      clear hrow hl hmem
      go_wp2_with fail
      go_loopw [6] (fun k wr => ∃ q : Nat, q ≤ l.length - 1 ∧ k = .int .i64 (q + 1 : Nat) ∧ Hid (∀ j, j < q → legD D l j ≠ -1) ∧ Hid (Below w.heap.size w wr)) (fun k _ => l.length - (intOf k).toNat)
      case atStart => exact ⟨0, Nat.zero_le _, rfl, fun j hj => absurd hj (by omega), HB⟩
      case round =>
        clear HB hc hgw
        obtain ⟨q, hq, rfl, HQ, HB⟩ := hrel
        have hc : wr.cell? ⟨g, a, none⟩ = _ := (HB.out.cell (by exact hg)).trans HC.out
        have hgw : g < wr.heap.size := Nat.lt_of_lt_of_le hg HB.out.size
        have hiw : gi < wr.heap.size := Nat.lt_of_lt_of_le hgi HB.out.size
        have hpw : p < wr.heap.size := Nat.lt_of_lt_of_le hp HB.out.size
        by_cases hql : q + 1 < l.length
        · obtain ⟨x, hx⟩ : ∃ x, x = l[q] := ⟨_, rfl⟩
          obtain ⟨y, hy⟩ : ∃ y, y = l[q + 1] := ⟨_, rfl⟩
          have hx1 := HLX.out x (by rw [hx]; exact List.getElem_mem _)
          have hy1 := HLX.out y (by rw [hy]; exact List.getElem_mem _)
          have x0 : wr.cell? ⟨gi, q, none⟩ = _ := (HB.out.cell (by exact hgi)).trans (HROW.out q (by omega))
          have y0 : wr.cell? ⟨gi, q + 1, none⟩ = _ := (HB.out.cell (by exact hgi)).trans (HROW.out (q + 1) hql)
          rw [← hx] at x0
          rw [← hy] at y0
          obtain ⟨xn, rfl⟩ : ∃ xn : Nat, x = xn := ⟨x.toNat, by omega⟩
          obtain ⟨yn, rfl⟩ : ∃ yn : Nat, y = yn := ⟨y.toNat, by omega⟩
          obtain ⟨fg, fgi, fci, rfl, hfg, hfc, hfgi, hfr⟩ := HSQ.out xn (by omega)
          have hd : wr.cell? ⟨fgi, yn, none⟩ = _ := (HB.out.cell (by exact hfgi)).trans (hfr yn (by omega))
          have hfw : wr.cell? ⟨fg, xn, none⟩ = _ := (HB.out.cell (by exact hfg)).trans hfc
          have hp7 : wr.cell? ⟨p, 7, none⟩ = _ := (HB.out.cell (by exact hp)).trans hf
          have hgf : fg < wr.heap.size := Nat.lt_of_lt_of_le hfg HB.out.size
          have hgif : fgi < wr.heap.size := Nat.lt_of_lt_of_le hfgi HB.out.size
          have ia : (0 : Int) ≤ (a : Int) := by omega
          have ja : (a : Int) < (L.length : Int) := by omega
          have iq : (0 : Int) ≤ (q : Int) := by omega
          have jq : (q : Int) < (l.length : Int) := by omega
          have iq1 : (0 : Int) ≤ (q : Int) + 1 := by omega
          have jq1 : (q : Int) + 1 < (l.length : Int) := by omega
          have ix : (0 : Int) ≤ (xn : Int) := by omega
          have jx : (xn : Int) < (n : Int) := by omega
          have iy : (0 : Int) ≤ (yn : Int) := by omega
          have jy : (yn : Int) < (n : Int) := by omega
          have hww : IntKind.i64.wrap ((q : Int) + 1 - 1) = q := by rw [show (q : Int) + 1 - 1 = q by omega]; exact i64_fits _ (by omega)
          have hww2 : IntKind.i64.wrap (q : Int) = q := i64_fits _ (by omega)
          have htn : ((q : Int) + 1).toNat = q + 1 := by omega
          have HD : Hid (legD D l q = D xn yn) := by
            show _ = _
            unfold legD
            rw [List.getD_eq_getElem?_getD, List.getD_eq_getElem?_getD, List.getElem?_eq_getElem (by omega), List.getElem?_eq_getElem hql, Option.getD_some, Option.getD_some, ← hx, ← hy]; simp
          generalize hdd : D xn yn = d at *
          clear hfr hx hy hdd
          by_cases hno : d = -1
          · subst hno
            have HF : Hid (L.all (wayOk D) = false) := HNO.out (List.all_eq_false.2 ⟨q, by simp; omega, by rw [HD.out]; simp⟩)
            go_wp2_with fail
            go_region_held3 (fun w' => w'.cell? ⟨p, 7, none⟩ = some (.slice (some ⟨fg, 0, none⟩) n cf) ∧ w'.cell? ⟨g, a, none⟩ = some (.slice (some ⟨gi, 0, none⟩) l.length ci) ∧ w'.cell? ⟨gi, q, none⟩ = some (.int .i64 xn) ∧ w'.cell? ⟨gi, q + 1, none⟩ = some (.int .i64 yn) ∧ w'.cell? ⟨fg, xn, none⟩ = some (.slice (some ⟨fgi, 0, none⟩) n fci) ∧ w'.cell? ⟨fgi, yn, none⟩ = some (.int .i64 (-1))) (go_keep) (fail)
            go_wp2
            go_ret
            exact ⟨ret_bool HF.out.symm, by first | exact HB.out | exact HB.out.drew⟩
          · have e1 : (d == (-1 : Int)) = false := by simpa using hno
            go_wp2_with fail
            go_region_held3 (fun w' => w'.cell? ⟨p, 7, none⟩ = some (.slice (some ⟨fg, 0, none⟩) n cf) ∧ w'.cell? ⟨g, a, none⟩ = some (.slice (some ⟨gi, 0, none⟩) l.length ci) ∧ w'.cell? ⟨gi, q, none⟩ = some (.int .i64 xn) ∧ w'.cell? ⟨gi, q + 1, none⟩ = some (.int .i64 yn) ∧ w'.cell? ⟨fg, xn, none⟩ = some (.slice (some ⟨fgi, 0, none⟩) n fci) ∧ w'.cell? ⟨fgi, yn, none⟩ = some (.int .i64 d)) (go_keep) (fail)
            go_wp2
            go_roundw
            case rel => exact ⟨q + 1, by omega, by go_num, fun j hj => by
              by_cases h : j = q
              · subst h; rw [HD.out]; exact hno
              · exact HQ.out j (by omega), by first | exact HB.out | exact HB.out.drew⟩
            case measure => simp [intOf]; omega
        · have HF : Hid (wayOk D l = true) := List.all_eq_true.2 fun k hk => by
            have : k < l.length - 1 := by simpa using hk
            simpa using HQ.out k (by omega)
          go_wp2
          go_roundw
          case rel => exact ⟨a + 1, by omega, by go_num, by show _ = true; rw [HT.out]; exact HF.out, HB⟩
          case measure => simp [intOf]; omega
    · have HF : Hid (L.all (wayOk D) = true) := by have := HA.out; rw [List.take_of_length_le (by omega)] at this; exact this
      go_wp2
      go_ret
      exact ⟨ret_bool HF.out.symm, by first | exact HB.out | exact HB.out.drew⟩
end Go.Proofs.Ytebinaopncclgab
namespace Go.Proofs.Ytebinaopncclgab
open Go.RowKit Go.IntWalk

/- the length of a route's first ways, of a route, of all routes -/
def rtTo (D : Nat → Nat → Int) (l : List Int) (q : Nat) : Int := ((List.range q).map (legD D l)).sum
def lenTo (D : Nat → Nat → Int) (L : List (List Int)) : Int := (L.map fun l => rtTo D l (l.length - 1)).sum
theorem rtTo_succ (D : Nat → Nat → Int) (l : List Int) (q : Nat) : rtTo D l (q + 1) = rtTo D l q + legD D l q := by simp [rtTo, List.range_succ]
theorem lenTo_snoc (D : Nat → Nat → Int) (L : List (List Int)) (l : List Int) : lenTo D (L ++ [l]) = lenTo D L + rtTo D l (l.length - 1) := by simp [lenTo]

set_option maxRecDepth 100000 in
set_option maxHeartbeats 2000000 in
theorem length_any (p n : Nat) (D : Nat → Nat → Int) (L : List (List Int)) (vf v : Value) (w : World) (hp : p < w.heap.size) (hf : w.cell? ⟨p, 7, none⟩ = some vf) (hq : SqR w vf n D) (hD : ∀ a b, a < n → b < n → -1 ≤ D a b ∧ D a b ≤ 40960000) (hr : RtR w v L) (hx : ∀ l ∈ L, l.length ≤ 1000 ∧ ∀ x ∈ l, 0 ≤ x ∧ x < n) :
    Calls Try.prog 57 #[.pointer (some ⟨p, 0, none⟩), v] w fun e w' => e = .returned (.int .i64 (lenTo D L)) ∧ Below w.heap.size w w' := by
  obtain ⟨af, cf, rfl, hn, hsq⟩ := hq
  obtain ⟨ao, co, rfl, hL, hrt⟩ := hr
  have HSQ := hid hsq
  have HRT := hid hrt
  have HX := hid hx
  have HDD := hid hD
  clear hsq hrt hx hD
  go_enter Try.func57, Try.ntmps57
  go_wp2_with fail
  go_loopw [5, 6] (fun sm i wr => ∃ (a : Nat) (S : Int), a ≤ L.length ∧ i = .int .i64 a ∧ sm = .int .i64 S ∧ (-(a : Int) * 40960000000 ≤ S ∧ S ≤ (a : Int) * 40960000000) ∧ Hid (S = lenTo D (L.take a)) ∧ Hid (Below w.heap.size w wr)) (fun _ i _ => L.length - (intOf i).toNat)
  case atStart => exact ⟨0, 0, Nat.zero_le _, rfl, rfl, by omega, rfl, Below.refl _ _⟩
  case round =>
    obtain ⟨a, S, ha, rfl, rfl, hS, HA, HB⟩ := hrel
    by_cases hlt : a < L.length
    · obtain ⟨g, gi, ci, rfl, hg, hc, hgi, hrow⟩ := HRT.out a hlt
      obtain ⟨l, hl⟩ : ∃ l, l = L[a] := ⟨_, rfl⟩
      have hmem : l ∈ L := by rw [hl]; exact List.getElem_mem _
      have hll := (HX.out l hmem).1
      have HLX : Hid (∀ x ∈ l, 0 ≤ x ∧ x < n) := (HX.out l hmem).2
      have HROW : Hid (∀ j (hj : j < l.length), w.cell? ⟨gi, j, none⟩ = some (.int .i64 l[j])) := by
        intro j hj; subst hl; exact hrow j hj
      rw [← hl] at hc
      have HC := hid hc
      have hc : wr.cell? ⟨g, a, none⟩ = _ := (HB.out.cell (by exact hg)).trans HC.out
      have hgw : g < wr.heap.size := Nat.lt_of_lt_of_le hg HB.out.size
      have HT : Hid (lenTo D (L.take (a + 1)) = S + rtTo D l (l.length - 1)) := by
        show _ = _
        rw [List.take_succ_eq_append_getElem hlt, lenTo_snoc, ← HA.out, ← hl]
      clear hrow hl hmem
      go_wp2_with fail
      go_loopw [5, 7] (fun sm k wr => ∃ (q : Nat) (T : Int), q ≤ l.length - 1 ∧ k = .int .i64 (q + 1 : Nat) ∧ sm = .int .i64 (S + T) ∧ (-(q : Int) * 40960000 ≤ T ∧ T ≤ (q : Int) * 40960000) ∧ Hid (T = rtTo D l q) ∧ Hid (Below w.heap.size w wr)) (fun _ k _ => l.length - (intOf k).toNat)
      case atStart => exact ⟨0, 0, Nat.zero_le _, rfl, by go_num, by omega, rfl, HB⟩
      case round =>
        clear HB hc hgw
        obtain ⟨q, T, hq, rfl, rfl, hT, HQ, HB⟩ := hrel
        have hc : wr.cell? ⟨g, a, none⟩ = _ := (HB.out.cell (by exact hg)).trans HC.out
        have hgw : g < wr.heap.size := Nat.lt_of_lt_of_le hg HB.out.size
        have hiw : gi < wr.heap.size := Nat.lt_of_lt_of_le hgi HB.out.size
        have hpw : p < wr.heap.size := Nat.lt_of_lt_of_le hp HB.out.size
        by_cases hql : q + 1 < l.length
        · obtain ⟨x, hx⟩ : ∃ x, x = l[q] := ⟨_, rfl⟩
          obtain ⟨y, hy⟩ : ∃ y, y = l[q + 1] := ⟨_, rfl⟩
          have hx1 := HLX.out x (by rw [hx]; exact List.getElem_mem _)
          have hy1 := HLX.out y (by rw [hy]; exact List.getElem_mem _)
          have x0 : wr.cell? ⟨gi, q, none⟩ = _ := (HB.out.cell (by exact hgi)).trans (HROW.out q (by omega))
          have y0 : wr.cell? ⟨gi, q + 1, none⟩ = _ := (HB.out.cell (by exact hgi)).trans (HROW.out (q + 1) hql)
          rw [← hx] at x0
          rw [← hy] at y0
          obtain ⟨xn, rfl⟩ : ∃ xn : Nat, x = xn := ⟨x.toNat, by omega⟩
          obtain ⟨yn, rfl⟩ : ∃ yn : Nat, y = yn := ⟨y.toNat, by omega⟩
          obtain ⟨fg, fgi, fci, rfl, hfg, hfc, hfgi, hfr⟩ := HSQ.out xn (by omega)
          have hd : wr.cell? ⟨fgi, yn, none⟩ = _ := (HB.out.cell (by exact hfgi)).trans (hfr yn (by omega))
          have hfw : wr.cell? ⟨fg, xn, none⟩ = _ := (HB.out.cell (by exact hfg)).trans hfc
          have hp7 : wr.cell? ⟨p, 7, none⟩ = _ := (HB.out.cell (by exact hp)).trans hf
          have hgf : fg < wr.heap.size := Nat.lt_of_lt_of_le hfg HB.out.size
          have hgif : fgi < wr.heap.size := Nat.lt_of_lt_of_le hfgi HB.out.size
          have ia : (0 : Int) ≤ (a : Int) := by omega
          have ja : (a : Int) < (L.length : Int) := by omega
          have iq : (0 : Int) ≤ (q : Int) := by omega
          have jq : (q : Int) < (l.length : Int) := by omega
          have iq1 : (0 : Int) ≤ (q : Int) + 1 := by omega
          have jq1 : (q : Int) + 1 < (l.length : Int) := by omega
          have ix : (0 : Int) ≤ (xn : Int) := by omega
          have jx : (xn : Int) < (n : Int) := by omega
          have iy : (0 : Int) ≤ (yn : Int) := by omega
          have jy : (yn : Int) < (n : Int) := by omega
          have hww : IntKind.i64.wrap ((q : Int) + 1 - 1) = q := by rw [show (q : Int) + 1 - 1 = q by omega]; exact i64_fits _ (by omega)
          have hww2 : IntKind.i64.wrap (q : Int) = q := i64_fits _ (by omega)
          have htn : ((q : Int) + 1).toNat = q + 1 := by omega
          have HD : Hid (legD D l q = D xn yn) := by
            show _ = _
            unfold legD
            rw [List.getD_eq_getElem?_getD, List.getD_eq_getElem?_getD, List.getElem?_eq_getElem (by omega), List.getElem?_eq_getElem hql, Option.getD_some, Option.getD_some, ← hx, ← hy]; simp
          have hdb := HDD.out xn yn (by omega) (by omega)
          generalize hdd : D xn yn = d at *
          have hws : IntKind.i64.wrap (S + T + d) = S + T + d := i64_fits _ (by omega)
          clear hfr hx hy hdd
          go_wp2_with fail
          go_region_held3 (fun w' => w'.cell? ⟨p, 7, none⟩ = some (.slice (some ⟨fg, 0, none⟩) n cf) ∧ w'.cell? ⟨g, a, none⟩ = some (.slice (some ⟨gi, 0, none⟩) l.length ci) ∧ w'.cell? ⟨gi, q, none⟩ = some (.int .i64 xn) ∧ w'.cell? ⟨gi, q + 1, none⟩ = some (.int .i64 yn) ∧ w'.cell? ⟨fg, xn, none⟩ = some (.slice (some ⟨fgi, 0, none⟩) n fci) ∧ w'.cell? ⟨fgi, yn, none⟩ = some (.int .i64 d)) (go_keep) (fail)
          go_wp2
          go_roundw
          case rel => exact ⟨q + 1, T + d, by omega, by go_num, by rw [← Int.add_assoc], by omega, by show _ = _; rw [rtTo_succ, HD.out, HQ.out], by first | exact HB.out | exact HB.out.drew⟩
          case measure => simp [intOf]; omega
        · have hql2 : q = l.length - 1 := by omega
          have HF : Hid (S + T = lenTo D (L.take (a + 1))) := by show _ = _; rw [HT.out, HQ.out, hql2]
          clear hql2
          go_wp2
          go_roundw
          case rel => exact ⟨a + 1, S + T, by omega, by go_num, rfl, by omega, HF, HB⟩
          case measure => simp [intOf]; omega
    · have HF : Hid (S = lenTo D L) := by have := HA.out; rw [List.take_of_length_le (by omega)] at this; exact this
      go_wp2
      go_ret
      exact ⟨ret_int HF.out, by first | exact HB.out | exact HB.out.drew⟩
end Go.Proofs.Ytebinaopncclgab
namespace Go.Proofs.Ytebinaopncclgab
open Go.RowKit Go.IntWalk

/- the stops, read -/
def StR (w : World) (v : Value) (r : Rd) : Prop :=
  ∃ ao c, v = .slice ao r.stops.length c ∧ ∀ i (h : i < r.stops.length), ∃ g, ao = some ⟨g, 0, none⟩ ∧ g < w.heap.size ∧ ∀ j z, j < 5 → r.stops[i][j]? = some z → w.cell? ⟨g, i * 5 + j, none⟩ = some (.int .i64 z)
/- a number of a site's stop -/
def stopV (r : Rd) (x j : Nat) : Int := (r.stops.getD (x - 1) []).getD j 0
def wantTo (r : Rd) (l : List Int) : Int := (l.map fun x => if x = 0 then 0 else stopV r x.toNat 1).sum
def loadOk (r : Rd) (l : List Int) : Bool := decide (wantTo r l ≤ r.load)
theorem wantTo_snoc (r : Rd) (l : List Int) (x : Int) : wantTo r (l ++ [x]) = wantTo r l + (if x = 0 then 0 else stopV r x.toNat 1) := by simp [wantTo]

set_option maxRecDepth 100000 in
set_option maxHeartbeats 2000000 in
theorem allLoad_any (p : Nat) (r : Rd) (L : List (List Int)) (vs v : Value) (w : World) (hp : p < w.heap.size) (hok : RdOk r) (h1 : w.cell? ⟨p, 1, none⟩ = some (.int .i64 r.load)) (h5 : w.cell? ⟨p, 5, none⟩ = some vs) (hs : StR w vs r) (hr : RtR w v L) (hx : ∀ l ∈ L, l.length ≤ 1000 ∧ ∀ x ∈ l, 0 ≤ x ∧ x < r.stops.length + 1) :
    Calls Try.prog 54 #[.pointer (some ⟨p, 0, none⟩), v] w fun e w' => e = .returned (.bool (L.all (loadOk r))) ∧ Below w.heap.size w w' := by
  obtain ⟨ast, cs, rfl, hst⟩ := hs
  obtain ⟨ao, co, rfl, hL, hrt⟩ := hr
  have hn := hok.nstops
  have HST := hid hst
  have HRT := hid hrt
  have HX := hid hx
  have HOK := hid hok
  clear hst hrt hx hok
  go_enter Try.func54, Try.ntmps54
  go_wp2_with fail
  go_loopw [5] (fun i wr => ∃ a : Nat, a ≤ L.length ∧ i = .int .i64 a ∧ Hid ((L.take a).all (loadOk r) = true) ∧ Hid (Below w.heap.size w wr)) (fun i _ => L.length - (intOf i).toNat)
  case atStart => exact ⟨0, Nat.zero_le _, rfl, rfl, Below.refl _ _⟩
  case round =>
    obtain ⟨a, ha, rfl, HA, HB⟩ := hrel
    by_cases hlt : a < L.length
    · obtain ⟨g, gi, ci, rfl, hg, hc, hgi, hrow⟩ := HRT.out a hlt
      obtain ⟨l, hl⟩ : ∃ l, l = L[a] := ⟨_, rfl⟩
      have hmem : l ∈ L := by rw [hl]; exact List.getElem_mem _
      have hll := (HX.out l hmem).1
      have HLX : Hid (∀ x ∈ l, 0 ≤ x ∧ x < r.stops.length + 1) := (HX.out l hmem).2
      have HROW : Hid (∀ j (hj : j < l.length), w.cell? ⟨gi, j, none⟩ = some (.int .i64 l[j])) := by
        intro j hj; subst hl; exact hrow j hj
      rw [← hl] at hc
      have HC := hid hc
      have hc : wr.cell? ⟨g, a, none⟩ = _ := (HB.out.cell (by exact hg)).trans HC.out
      have hgw : g < wr.heap.size := Nat.lt_of_lt_of_le hg HB.out.size
      have HT : Hid ((L.take (a + 1)).all (loadOk r) = loadOk r l) := by
        show _ = _
        rw [List.take_succ_eq_append_getElem hlt, List.all_append, HA.out, ← hl]; simp
      have HNO : Hid (loadOk r l = false → L.all (loadOk r) = false) := fun h => List.all_eq_false.2 ⟨l, hmem, by rw [h]; simp⟩
      clear hrow hl hmem
      go_wp2_with fail
      go_loopw [6, 7] (fun sm k wr => ∃ (q : Nat) (T : Int), q ≤ l.length ∧ k = .int .i64 q ∧ sm = .int .i64 T ∧ (0 ≤ T ∧ T ≤ (q : Int) * 10000) ∧ Hid (T = wantTo r (l.take q)) ∧ Hid (Below w.heap.size w wr)) (fun _ k _ => l.length - (intOf k).toNat)
      case atStart => exact ⟨0, 0, Nat.zero_le _, rfl, rfl, by omega, rfl, HB⟩
      case round =>
        clear HB hc hgw
        obtain ⟨q, T, hq, rfl, rfl, hT, HQ, HB⟩ := hrel
        have hc : wr.cell? ⟨g, a, none⟩ = _ := (HB.out.cell (by exact hg)).trans HC.out
        have hgw : g < wr.heap.size := Nat.lt_of_lt_of_le hg HB.out.size
        have hiw : gi < wr.heap.size := Nat.lt_of_lt_of_le hgi HB.out.size
        have hpw : p < wr.heap.size := Nat.lt_of_lt_of_le hp HB.out.size
        have hp1 : wr.cell? ⟨p, 1, none⟩ = _ := (HB.out.cell (by exact hp)).trans h1
        by_cases hql : q < l.length
        · obtain ⟨x, hx⟩ : ∃ x, x = l[q] := ⟨_, rfl⟩
          have hx1 := HLX.out x (by rw [hx]; exact List.getElem_mem _)
          have x0 : wr.cell? ⟨gi, q, none⟩ = _ := (HB.out.cell (by exact hgi)).trans (HROW.out q hql)
          rw [← hx] at x0
          have HN : Hid (wantTo r (l.take (q + 1)) = T + (if x = 0 then 0 else stopV r x.toNat 1)) := by
            show _ = _
            rw [List.take_succ_eq_append_getElem hql, wantTo_snoc, ← HQ.out, ← hx]
          obtain ⟨xn, rfl⟩ : ∃ xn : Nat, x = xn := ⟨x.toNat, by omega⟩
          clear hx
          by_cases hz : xn = 0
          · subst hz
            go_wp2_with go_in
            go_roundw
            case rel => exact ⟨q + 1, T, by omega, by go_num, rfl, by omega, by show _ = _; rw [HN.out]; simp, by first | exact HB.out | exact HB.out.drew⟩
            case measure => simp [intOf]; omega
          · obtain ⟨m, rfl⟩ : ∃ m, xn = m + 1 := ⟨xn - 1, by omega⟩
            obtain ⟨sg, rfl, hsg, hsc⟩ := HST.out m (by omega)
            obtain ⟨b0, b1, b2, b3, b4, hab, hsk⟩ := HOK.out.stops _ (List.getElem_mem (show m < r.stops.length by omega))
            have hw1 : wr.cell? ⟨sg, m * 5 + 1, none⟩ = some (.int .i64 b1) := (HB.out.cell (by exact hsg)).trans (hsc 1 b1 (by omega) (by rw [hab]; rfl))
            have hp5 : wr.cell? ⟨p, 5, none⟩ = _ := (HB.out.cell (by exact hp)).trans h5
            have hsw : sg < wr.heap.size := Nat.lt_of_lt_of_le hsg HB.out.size
            have hV : stopV r (m + 1) 1 = b1 := by
              have hg' : r.stops.getD m [] = [b0, b1, b2, b3, b4] := by rw [List.getD_eq_getElem?_getD, List.getElem?_eq_getElem (show m < r.stops.length by omega), Option.getD_some, hab]
              unfold stopV
              rw [Nat.add_sub_cancel, hg']; rfl
            have hbb : 0 ≤ b1 ∧ b1 ≤ 10000 := by
              simp only [stopOk, Bool.and_eq_true, fit_iff, decide_eq_true_eq] at hsk
              omega
            have HN2 : Hid (wantTo r (l.take (q + 1)) = T + b1) := by
              show _ = _
              rw [HN.out, if_neg (by omega), show ((m + 1 : Nat) : Int).toNat = m + 1 by omega, hV]
            clear hsc hab hsk hV HN hz
            go_wp2_with go_in
            go_roundw
            case rel => exact ⟨q + 1, T + b1, by omega, by go_num, rfl, by omega, HN2.out.symm, by first | exact HB.out | exact HB.out.drew⟩
            case measure => simp [intOf]; omega
        · have HTQ : Hid (T = wantTo r l) := by have := HQ.out; rw [List.take_of_length_le (by omega)] at this; exact this
          by_cases hgt : r.load < T
          · have HF : Hid (L.all (loadOk r) = false) := HNO.out (by unfold loadOk; rw [← HTQ.out]; simpa using hgt)
            go_wp2_with go_in
            go_ret
            exact ⟨ret_bool HF.out.symm, by first | exact HB.out | exact HB.out.drew⟩
          · have HF : Hid (loadOk r l = true) := by show _ = _; unfold loadOk; rw [← HTQ.out]; simpa using hgt
            go_wp2_with go_in
            go_roundw
            case rel => exact ⟨a + 1, by omega, by go_num, by show _ = true; rw [HT.out]; exact HF.out, by first | exact HB.out | exact HB.out.drew⟩
            case measure => simp [intOf]; omega
    · have HF : Hid (L.all (loadOk r) = true) := by have := HA.out; rw [List.take_of_length_le (by omega)] at this; exact this
      go_wp2
      go_ret
      exact ⟨ret_bool HF.out.symm, HB.out⟩
end Go.Proofs.Ytebinaopncclgab
