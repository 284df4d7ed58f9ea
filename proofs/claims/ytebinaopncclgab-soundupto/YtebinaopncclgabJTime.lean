/- Walks: the times of a route. -/
import Derived.Test.YtebinaopncclgabJLoad
namespace Go.Proofs.Ytebinaopncclgab
open Go.RowKit Go.IntWalk

/- when the van goes on behind the q-th way of a route; none, if it was late; and the starts by then -/
def startS (r : Rd) (D : Nat → Nat → Int) (l : List Int) (q : Nat) (t : Int) : Int :=
  if t + legD D l q < stopV r (l.getD (q + 1) 0).toNat 2 then stopV r (l.getD (q + 1) 0).toNat 2 else t + legD D l q
def tmStep (r : Rd) (D : Nat → Nat → Int) (l : List Int) (st : Option (Int × List Int)) (q : Nat) : Option (Int × List Int) :=
  match st with
  | none => none
  | some (t, S) =>
    if l.getD (q + 1) 0 = 0 then some (t + legD D l q, S)
    else if stopV r (l.getD (q + 1) 0).toNat 3 < startS r D l q t then none
    else some (startS r D l q t + stopV r (l.getD (q + 1) 0).toNat 4, S.set ((l.getD (q + 1) 0).toNat - 1) (startS r D l q t))
def tmGo (r : Rd) (D : Nat → Nat → Int) (l : List Int) (S : List Int) (q : Nat) : Option (Int × List Int) := (List.range q).foldl (tmStep r D l) (some (0, S))
theorem tmGo_succ (r : Rd) (D : Nat → Nat → Int) (l S : List Int) (q : Nat) : tmGo r D l S (q + 1) = tmStep r D l (tmGo r D l S q) q := by simp [tmGo, List.range_succ]
theorem tmGo_none (r : Rd) (D : Nat → Nat → Int) (l S : List Int) (q k : Nat) (h : tmGo r D l S q = none) : tmGo r D l S (q + k) = none := by
  induction k with
  | zero => exact h
  | succ k ih => rw [← Nat.add_assoc, tmGo_succ, ih]; rfl
/- what the route leaves: none, if it is late -/
def timeS (r : Rd) (D : Nat → Nat → Int) (l S : List Int) : Option (List Int) :=
  match tmGo r D l S (l.length - 1) with
  | none => none
  | some (t, S') => if t ≤ r.close then some S' else none

/- the same, site by site: what the program goes through; the depot may stand at either end -/
def legN (D : Nat → Nat → Int) (l : List Int) (k : Nat) : Int := if k = 0 then 0 else legD D l (k - 1)
def startN (r : Rd) (D : Nat → Nat → Int) (l : List Int) (k : Nat) (t : Int) : Int :=
  if t + legN D l k < stopV r (l.getD k 0).toNat 2 then stopV r (l.getD k 0).toNat 2 else t + legN D l k
def tmStepN (r : Rd) (D : Nat → Nat → Int) (l : List Int) (st : Option (Int × List Int)) (k : Nat) : Option (Int × List Int) :=
  match st with
  | none => none
  | some (t, S) =>
    if l.getD k 0 = 0 then (if t + legN D l k ≤ r.close then some (t + legN D l k, S) else none)
    else if stopV r (l.getD k 0).toNat 3 < startN r D l k t then none
    else some (startN r D l k t + stopV r (l.getD k 0).toNat 4, S.set ((l.getD k 0).toNat - 1) (startN r D l k t))
def tmGoN (r : Rd) (D : Nat → Nat → Int) (l : List Int) (S : List Int) (q : Nat) : Option (Int × List Int) := (List.range q).foldl (tmStepN r D l) (some (0, S))
theorem tmGoN_succ (r : Rd) (D : Nat → Nat → Int) (l S : List Int) (q : Nat) : tmGoN r D l S (q + 1) = tmStepN r D l (tmGoN r D l S q) q := by simp [tmGoN, List.range_succ]
theorem tmGoN_none (r : Rd) (D : Nat → Nat → Int) (l S : List Int) (q k : Nat) (h : tmGoN r D l S q = none) : tmGoN r D l S (q + k) = none := by
  induction k with
  | zero => exact h
  | succ k ih => rw [← Nat.add_assoc, tmGoN_succ, ih]; rfl
def timeN (r : Rd) (D : Nat → Nat → Int) (l S : List Int) : Option (List Int) := (tmGoN r D l S l.length).map (·.2)
theorem timeN_late {r : Rd} {D : Nat → Nat → Int} {l S : List Int} {q : Nat} (hq : q < l.length) (h : tmGoN r D l S (q + 1) = none) : timeN r D l S = none := by
  have h2 := tmGoN_none r D l S (q + 1) (l.length - (q + 1)) h
  rw [show q + 1 + (l.length - (q + 1)) = l.length by omega] at h2
  unfold timeN; rw [h2]; rfl
/- on a route both are the same -/
theorem timeN_route (r : Rd) (D : Nat → Nat → Int) (l S : List Int) (hc : 0 ≤ r.close) (h2 : 2 ≤ l.length) (h0 : l.getD 0 0 = 0) (hl : l.getD (l.length - 1) 0 = 0) (hin : ∀ j, j + 2 < l.length → l.getD (j + 1) 0 ≠ 0) : timeN r D l S = timeS r D l S := by
  have step : ∀ st q, q + 2 < l.length → tmStepN r D l st (q + 1) = tmStep r D l st q := by
    intro st q hq
    match st with
    | none => rfl
    | some (t, S) =>
      have e : startN r D l (q + 1) t = startS r D l q t := by unfold startN startS legN; simp
      show (if l.getD (q + 1) 0 = 0 then _ else if _ < startN r D l (q + 1) t then none else some (startN r D l (q + 1) t + _, S.set _ (startN r D l (q + 1) t))) = (if l.getD (q + 1) 0 = 0 then _ else _)
      rw [if_neg (hin q hq), if_neg (hin q hq), e]
  have key : ∀ q, q + 1 < l.length → tmGoN r D l S (q + 1) = tmGo r D l S q := by
    intro q
    induction q with
    | zero =>
      intro _
      rw [tmGoN_succ]
      show (if l.getD 0 0 = 0 then (if (0 : Int) + legN D l 0 ≤ r.close then some ((0 : Int) + legN D l 0, S) else none) else _) = _
      rw [if_pos h0, show legN D l 0 = 0 from rfl, if_pos (by omega)]; rfl
    | succ q ih =>
      intro hq
      rw [tmGoN_succ, ih (by omega), step _ q (by omega), tmGo_succ]
  obtain ⟨m, hm⟩ : ∃ m, l.length = m + 2 := ⟨l.length - 2, by omega⟩
  have hl2 : l.getD (m + 1) 0 = 0 := by rw [show m + 1 = l.length - 1 by omega]; exact hl
  unfold timeN timeS
  rw [hm, tmGoN_succ, key m (by omega), show m + 2 - 1 = m + 1 by omega, tmGo_succ]
  match tmGo r D l S m with
  | none => rfl
  | some (t, S') =>
    have e1 : tmStepN r D l (some (t, S')) (m + 1) = if t + legD D l m ≤ r.close then some (t + legD D l m, S') else none := by
      show (if l.getD (m + 1) 0 = 0 then _ else _) = _
      rw [if_pos hl2]; simp [legN]
    have e2 : tmStep r D l (some (t, S')) m = some (t + legD D l m, S') := by
      show (if l.getD (m + 1) 0 = 0 then _ else _) = _
      rw [if_pos hl2]
    rw [e1, e2]
    by_cases h : t + legD D l m ≤ r.close <;> simp [h]

set_option maxRecDepth 100000 in
set_option maxHeartbeats 4000000 in
theorem inTime_any (p gi ci : Nat) (r : Rd) (D : Nat → Nat → Int) (l S0 : List Int) (vf vs : Value) (w0 w : World) (hB : Below w0.heap.size w0 w) (hp : p < w0.heap.size) (hok : RdOk r) (h2 : w0.cell? ⟨p, 2, none⟩ = some (.int .i64 r.close)) (h5 : w0.cell? ⟨p, 5, none⟩ = some vs) (hs : StR w0 vs r)
    (h7 : w0.cell? ⟨p, 7, none⟩ = some vf) (hq : SqR w0 vf (r.stops.length + 1) D) (hD : ∀ a b, a < r.stops.length + 1 → b < r.stops.length + 1 → -1 ≤ D a b ∧ D a b ≤ 40960000)
    (hgi : gi < w0.heap.size) (hrow : ∀ j (hj : j < l.length), w0.cell? ⟨gi, j, none⟩ = some (.int .i64 l[j])) (hll : l.length ≤ 1000) (hx : ∀ x ∈ l, 0 ≤ x ∧ x < r.stops.length + 1)
    (hS : S0.length = r.stops.length) (hown : w.ownsRow w0.heap.size 3 1 (.slice (some ⟨w0.heap.size, 0, none⟩) r.stops.length r.stops.length) r.stops.length (ints S0)) :
    Calls Try.prog 67 #[.pointer (some ⟨p, 0, none⟩), .slice (some ⟨gi, 0, none⟩) l.length ci, .slice (some ⟨w0.heap.size, 0, none⟩) r.stops.length r.stops.length] w fun e w' =>
      e = .returned (.bool (timeN r D l S0).isSome) ∧ Below w0.heap.size w0 w' ∧ ∃ S, S.length = r.stops.length ∧ (∀ S', timeN r D l S0 = some S' → S = S') ∧ w'.ownsRow w0.heap.size 3 1 (.slice (some ⟨w0.heap.size, 0, none⟩) r.stops.length r.stops.length) r.stops.length (ints S) := by
  obtain ⟨ast, cs, rfl, hst⟩ := hs
  obtain ⟨af, cf, rfl, hn, hsq⟩ := hq
  have hn7 := hok.nstops
  have HST := hid hst
  have HSQ := hid hsq
  have HROW := hid hrow
  have HX := hid hx
  have HOK := hid hok
  have HDD := hid hD
  have HO := hid hown
  have HB := hid hB
  clear hst hsq hrow hx hok hD hown hB
  go_enter Try.func67, Try.ntmps67
  go_wp2_with fail
  go_loopw [7, 8] (fun tv k wr => ∃ (q : Nat) (t : Int) (S : List Int), q ≤ l.length ∧ k = .int .i64 (q : Nat) ∧ tv = .int .i64 t ∧ (-(q : Int) ≤ t ∧ t ≤ (q : Int) * 41000000) ∧ S.length = r.stops.length ∧ Hid (tmGoN r D l S0 q = some (t, S)) ∧ Hid (wr.ownsRow w0.heap.size 3 1 (.slice (some ⟨w0.heap.size, 0, none⟩) r.stops.length r.stops.length) r.stops.length (ints S)) ∧ Hid (Below w0.heap.size w0 wr)) (fun _ k _ => l.length - (intOf k).toNat)
  case atStart => exact ⟨0, 0, S0, Nat.zero_le _, rfl, rfl, by omega, hS, rfl, HO, HB⟩
  case round =>
    clear HB HO
    obtain ⟨q, t, S, hq, rfl, rfl, ht, hSl, HG, HO, HB⟩ := hrel
    have hpw : p < wr.heap.size := Nat.lt_of_lt_of_le hp HB.out.size
    have hiw : gi < wr.heap.size := Nat.lt_of_lt_of_le hgi HB.out.size
    have hp2 : wr.cell? ⟨p, 2, none⟩ = _ := (HB.out.cell (by exact hp)).trans h2
    by_cases hql : q < l.length
    · obtain ⟨y, hy⟩ : ∃ y, y = l[q] := ⟨_, rfl⟩
      have hy1 := HX.out y (by rw [hy]; exact List.getElem_mem _)
      have y0 : wr.cell? ⟨gi, q, none⟩ = _ := (HB.out.cell (by exact hgi)).trans (HROW.out q (by omega))
      rw [← hy] at y0
      obtain ⟨yn, rfl⟩ : ∃ yn : Nat, y = yn := ⟨y.toNat, by omega⟩
      have hyg : l.getD q 0 = yn := by rw [List.getD_eq_getElem?_getD, List.getElem?_eq_getElem hql, Option.getD_some, ← hy]
      have HYG := hid hyg
      have HN : Hid (tmGoN r D l S0 (q + 1) = tmStepN r D l (some (t, S)) q) := by show _ = _; rw [tmGoN_succ, HG.out]
      have iq : (0 : Int) ≤ (q : Int) := by omega
      have jq : (q : Int) < (l.length : Int) := by omega
      have iy : (0 : Int) ≤ (yn : Int) := by omega
      have jy : (yn : Int) < (r.stops.length : Int) + 1 := by omega
      clear hy
      by_cases hq0 : q = 0
      · have HU : Hid (t + legN D l q = t) := by show _ = _; rw [hq0]; simp [legN]
        have q0 : ¬ (0 : Int) < (q : Int) := by omega
        have HOX := HO
        have HBX := HB
        obtain ⟨wx, hwx⟩ : ∃ wx, wx = wr := ⟨_, rfl⟩
        rw [← hwx] at HOX HBX
        have tb : -((q : Int) + 1) ≤ t ∧ t ≤ ((q : Int) + 1) * 41000000 - 20000 := by omega
        clear hyg hq0
        subst hwx
        clear HB HO hp2 hpw
        have hp2 : wx.cell? ⟨p, 2, none⟩ = _ := (HBX.out.cell (by exact hp)).trans h2
        have hpw : p < wx.heap.size := Nat.lt_of_lt_of_le hp HBX.out.size
        by_cases hz : yn = 0
        · have HNT : Hid (tmGoN r D l S0 (q + 1) = if t ≤ r.close then some (t, S) else none) := by
            show _ = _
            rw [HN.out]
            show (if l.getD q 0 = 0 then (if t + legN D l q ≤ r.close then some (t + legN D l q, S) else none) else _) = _
            rw [if_pos (by rw [HYG.out, hz]; rfl), HU.out]
          subst hz
          by_cases hcl : t ≤ r.close
          · have HNX : Hid (tmGoN r D l S0 (q + 1) = some (t, S)) := by show _ = _; rw [HNT.out, if_pos hcl]
            go_wp2_with go_in
            go_roundw
            case rel => exact ⟨q + 1, t, S, by omega, by go_num, rfl, by omega, hSl, HNX, by first | exact HOX | exact own_heap HOX.out rfl, by first | exact HBX | exact HBX.out.drew⟩
            case measure => simp [intOf]; omega
          · have HF : Hid (timeN r D l S0 = none) := timeN_late hql (by rw [HNT.out, if_neg hcl])
            go_wp2_with go_in
            go_ret
            refine ⟨ret_bool (by rw [HF.out]; simp), by first | exact HBX.out | exact HBX.out.drew, S, hSl, fun S' e => (by rw [HF.out] at e; cases e), HOX.out⟩
        · obtain ⟨m, rfl⟩ : ∃ m, yn = m + 1 := ⟨yn - 1, by omega⟩
          obtain ⟨sg, rfl, hsg, hsc⟩ := HST.out m (by omega)
          obtain ⟨b0, b1, b2, b3, b4, hab, hsk⟩ := HOK.out.stops _ (List.getElem_mem (show m < r.stops.length by omega))
          have hcl : ∀ j z, j < 5 → [b0, b1, b2, b3, b4][j]? = some z → wx.cell? ⟨sg, m * 5 + j, none⟩ = some (.int .i64 z) := fun j z hj hz => (HBX.out.cell (by exact hsg)).trans (hsc j z hj (by rw [hab]; exact hz))
          have s0 : wx.cell? ⟨sg, m * 5, none⟩ = some (.int .i64 b0) := hcl 0 b0 (by omega) rfl
          have s1 := hcl 1 b1 (by omega) rfl
          have s2 := hcl 2 b2 (by omega) rfl
          have s3 := hcl 3 b3 (by omega) rfl
          have s4 := hcl 4 b4 (by omega) rfl
          have hp5 : wx.cell? ⟨p, 5, none⟩ = _ := (HBX.out.cell (by exact hp)).trans h5
          have hsw : sg < wx.heap.size := Nat.lt_of_lt_of_le hsg HBX.out.size
          have hg' : r.stops.getD m [] = [b0, b1, b2, b3, b4] := by rw [List.getD_eq_getElem?_getD, List.getElem?_eq_getElem (show m < r.stops.length by omega), Option.getD_some, hab]
          have hV : ∀ j, stopV r (m + 1) j = [b0, b1, b2, b3, b4].getD j 0 := fun j => by unfold stopV; rw [Nat.add_sub_cancel, hg']
          have hbb : (0 ≤ b2 ∧ b2 ≤ 10000) ∧ (0 ≤ b3 ∧ b3 ≤ 10000) ∧ (0 ≤ b4 ∧ b4 ≤ 10000) := by
            simp only [stopOk, Bool.and_eq_true, fit_iff, decide_eq_true_eq] at hsk
            omega
          have hfz := HOX.out.frozenAt m
          have hol : wx.cell? ⟨w0.heap.size, m, none⟩ = some (.int .i64 (S.getD m 0)) := by
            rw [HOX.out.cellAt m (by omega)]
            simp [ints, List.getD_eq_getElem?_getD, List.getElem?_eq_getElem (show m < S.length by omega)]
          have htn : (l.getD q 0).toNat = m + 1 := by rw [HYG.out]; omega
          have HSS : Hid (startN r D l q t = if t < b2 then b2 else t) := by show _ = _; unfold startN; rw [htn, HU.out, hV]; rfl
          have HNT : Hid (tmGoN r D l S0 (q + 1) = if b3 < startN r D l q t then none else some (startN r D l q t + b4, S.set m (startN r D l q t))) := by
            show _ = _
            rw [HN.out]
            show (if l.getD q 0 = 0 then _ else if stopV r (l.getD q 0).toNat 3 < startN r D l q t then none else some (startN r D l q t + stopV r (l.getD q 0).toNat 4, S.set ((l.getD q 0).toNat - 1) (startN r D l q t))) = _
            rw [if_neg (by rw [HYG.out]; omega), htn, hV, hV]; rfl
          have h0w : w0.heap.size < wx.heap.size := own_cells_int HOX.out
          clear hsc hab hsk hV hg' hcl htn HN hz
          by_cases hearly : t < b2
          · have HSV : Hid (startN r D l q t = b2) := by show _ = _; rw [HSS.out, if_pos hearly]
            by_cases hlate : b3 < b2
            · have HF : Hid (timeN r D l S0 = none) := timeN_late hql (by rw [HNT.out, HSV.out, if_pos hlate])
              go_wp2_with go_in
              all_goals
                go_ret
                refine ⟨ret_bool (by rw [HF.out]; simp), HBX.out.alloc HBX.out.size _, S, hSl, fun S' e => (by rw [HF.out] at e; cases e), HOX.out.alloc _⟩
            · have HNX : Hid (tmGoN r D l S0 (q + 1) = some (b2 + b4, S.set m (b2))) := by show _ = _; rw [HNT.out, HSV.out, if_neg hlate]
              have HST2 := hid (HOX.out.stored m (.int .i64 (b2))).1
              have HBS : Hid (Below w0.heap.size w0 (wx.setCell ⟨w0.heap.size, m, none⟩ (.int .i64 (b2)))) := HBX.out.setCell (Nat.le_refl _) _
              have HIS : Hid ((ints S).set m (.int .i64 (b2)) = ints (S.set m (b2))) := by show _ = _; simp [ints, List.map_set]
              go_wp2_with go_in
              go_roundw
              case rel =>
                refine ⟨q + 1, b2 + b4, S.set m (b2), by omega, by go_num, rfl, by omega, by simp [hSl], HNX, ?_, HBS.out.alloc HBS.out.size _⟩
                show World.ownsRow _ _ _ _ _ _ _
                rw [← HIS.out]; exact HST2.out.alloc _
              case measure => simp [intOf]; omega
          · have HSV : Hid (startN r D l q t = t) := by show _ = _; rw [HSS.out, if_neg hearly]
            by_cases hlate : b3 < t
            · have HF : Hid (timeN r D l S0 = none) := timeN_late hql (by rw [HNT.out, HSV.out, if_pos hlate])
              go_wp2_with go_in
              all_goals
                go_ret
                refine ⟨ret_bool (by rw [HF.out]; simp), HBX.out.alloc HBX.out.size _, S, hSl, fun S' e => (by rw [HF.out] at e; cases e), HOX.out.alloc _⟩
            · have HNX : Hid (tmGoN r D l S0 (q + 1) = some (t + b4, S.set m (t))) := by show _ = _; rw [HNT.out, HSV.out, if_neg hlate]
              have HST2 := hid (HOX.out.stored m (.int .i64 (t))).1
              have HBS : Hid (Below w0.heap.size w0 (wx.setCell ⟨w0.heap.size, m, none⟩ (.int .i64 (t)))) := HBX.out.setCell (Nat.le_refl _) _
              have HIS : Hid ((ints S).set m (.int .i64 (t)) = ints (S.set m (t))) := by show _ = _; simp [ints, List.map_set]
              go_wp2_with go_in
              go_roundw
              case rel =>
                refine ⟨q + 1, t + b4, S.set m (t), by omega, by go_num, rfl, by omega, by simp [hSl], HNX, ?_, HBS.out.alloc HBS.out.size _⟩
                show World.ownsRow _ _ _ _ _ _ _
                rw [← HIS.out]; exact HST2.out.alloc _
              case measure => simp [intOf]; omega
      · obtain ⟨k, rfl⟩ : ∃ k, q = k + 1 := ⟨q - 1, by omega⟩
        obtain ⟨x, hx⟩ : ∃ x, x = l[k] := ⟨_, rfl⟩
        have hx1 := HX.out x (by rw [hx]; exact List.getElem_mem _)
        have x0 : wr.cell? ⟨gi, k, none⟩ = _ := (HB.out.cell (by exact hgi)).trans (HROW.out k (by omega))
        rw [← hx] at x0
        obtain ⟨xn, rfl⟩ : ∃ xn : Nat, x = xn := ⟨x.toNat, by omega⟩
        obtain ⟨fg, fgi, fci, rfl, hfg, hfc, hfgi, hfr⟩ := HSQ.out xn (by omega)
        have hd : wr.cell? ⟨fgi, yn, none⟩ = _ := (HB.out.cell (by exact hfgi)).trans (hfr yn (by omega))
        have hfw : wr.cell? ⟨fg, xn, none⟩ = _ := (HB.out.cell (by exact hfg)).trans hfc
        have hp7 : wr.cell? ⟨p, 7, none⟩ = _ := (HB.out.cell (by exact hp)).trans h7
        have hgf : fg < wr.heap.size := Nat.lt_of_lt_of_le hfg HB.out.size
        have hgif : fgi < wr.heap.size := Nat.lt_of_lt_of_le hfgi HB.out.size
        have hxg : l.getD k 0 = xn := by rw [List.getD_eq_getElem?_getD, List.getElem?_eq_getElem (by omega), Option.getD_some, ← hx]
        have hdb := HDD.out xn yn (by omega) (by omega)
        have HU : Hid (t + legN D l (k + 1) = t + D xn yn) := by show _ = _; unfold legN legD; simp only [Nat.add_sub_cancel]; rw [if_neg (by omega), hyg, hxg]; simp
        generalize hdd : D xn yn = d at *
        have ik : (0 : Int) ≤ (k : Int) := by omega
        have jk : (k : Int) < (l.length : Int) := by omega
        have ix : (0 : Int) ≤ (xn : Int) := by omega
        have jx : (xn : Int) < (r.stops.length : Int) + 1 := by omega
        have hww : IntKind.i64.wrap ((k : Int) + 1 - 1) = k := by rw [show (k : Int) + 1 - 1 = k by omega]; exact i64_fits _ (by omega)
        have hww2 : IntKind.i64.wrap (k : Int) = k := i64_fits _ (by omega)
        have hws : IntKind.i64.wrap (t + d) = t + d := i64_fits _ (by omega)
        have tb : -((k : Int) + 1 + 1) ≤ t + d ∧ t + d ≤ ((k : Int) + 1 + 1) * 41000000 - 20000 := by omega
        clear hfr hx hdd hxg hyg
        go_wp2_with fail
        go_region_held3 (fun w' => w'.cell? ⟨p, 7, none⟩ = some (.slice (some ⟨fg, 0, none⟩) (r.stops.length + 1) cf) ∧ w'.cell? ⟨gi, k, none⟩ = some (.int .i64 xn) ∧ w'.cell? ⟨fg, xn, none⟩ = some (.slice (some ⟨fgi, 0, none⟩) (r.stops.length + 1) fci) ∧ w'.cell? ⟨fgi, yn, none⟩ = some (.int .i64 d)) (go_keep) (fail)
        obtain ⟨wx, hwx⟩ : ∃ wx, wx = wr.drew := ⟨_, rfl⟩
        have HBX : Hid (Below w0.heap.size w0 wx) := by show Below _ _ _; rw [hwx]; exact HB.out.drew
        have HOX : Hid (wx.ownsRow w0.heap.size 3 1 (.slice (some ⟨w0.heap.size, 0, none⟩) r.stops.length r.stops.length) r.stops.length (ints S)) := by
          show World.ownsRow _ _ _ _ _ _ _
          rw [hwx]; exact own_heap HO.out rfl
        rw [← hwx]
        clear hwx HB HO x0 y0 hd hfw hp7 hgf hgif hp2 hpw hiw hww hww2 hws
        rename_i hHeld
        clear hHeld
        have hp2 : wx.cell? ⟨p, 2, none⟩ = _ := (HBX.out.cell (by exact hp)).trans h2
        have hpw : p < wx.heap.size := Nat.lt_of_lt_of_le hp HBX.out.size
        by_cases hz : yn = 0
        · have HNT : Hid (tmGoN r D l S0 (k + 1 + 1) = if (t + d) ≤ r.close then some ((t + d), S) else none) := by
            show _ = _
            rw [HN.out]
            show (if l.getD (k + 1) 0 = 0 then (if t + legN D l (k + 1) ≤ r.close then some (t + legN D l (k + 1), S) else none) else _) = _
            rw [if_pos (by rw [HYG.out, hz]; rfl), HU.out]
          subst hz
          by_cases hcl : (t + d) ≤ r.close
          · have HNX : Hid (tmGoN r D l S0 (k + 1 + 1) = some ((t + d), S)) := by show _ = _; rw [HNT.out, if_pos hcl]
            go_wp2_with go_in
            go_roundw
            case rel => exact ⟨k + 1 + 1, (t + d), S, by omega, by go_num, rfl, by omega, hSl, HNX, by first | exact HOX | exact own_heap HOX.out rfl, by first | exact HBX | exact HBX.out.drew⟩
            case measure => simp [intOf]; omega
          · have HF : Hid (timeN r D l S0 = none) := timeN_late hql (by rw [HNT.out, if_neg hcl])
            go_wp2_with go_in
            go_ret
            refine ⟨ret_bool (by rw [HF.out]; simp), by first | exact HBX.out | exact HBX.out.drew, S, hSl, fun S' e => (by rw [HF.out] at e; cases e), HOX.out⟩
        · obtain ⟨m, rfl⟩ : ∃ m, yn = m + 1 := ⟨yn - 1, by omega⟩
          obtain ⟨sg, rfl, hsg, hsc⟩ := HST.out m (by omega)
          obtain ⟨b0, b1, b2, b3, b4, hab, hsk⟩ := HOK.out.stops _ (List.getElem_mem (show m < r.stops.length by omega))
          have hcl : ∀ j z, j < 5 → [b0, b1, b2, b3, b4][j]? = some z → wx.cell? ⟨sg, m * 5 + j, none⟩ = some (.int .i64 z) := fun j z hj hz => (HBX.out.cell (by exact hsg)).trans (hsc j z hj (by rw [hab]; exact hz))
          have s0 : wx.cell? ⟨sg, m * 5, none⟩ = some (.int .i64 b0) := hcl 0 b0 (by omega) rfl
          have s1 := hcl 1 b1 (by omega) rfl
          have s2 := hcl 2 b2 (by omega) rfl
          have s3 := hcl 3 b3 (by omega) rfl
          have s4 := hcl 4 b4 (by omega) rfl
          have hp5 : wx.cell? ⟨p, 5, none⟩ = _ := (HBX.out.cell (by exact hp)).trans h5
          have hsw : sg < wx.heap.size := Nat.lt_of_lt_of_le hsg HBX.out.size
          have hg' : r.stops.getD m [] = [b0, b1, b2, b3, b4] := by rw [List.getD_eq_getElem?_getD, List.getElem?_eq_getElem (show m < r.stops.length by omega), Option.getD_some, hab]
          have hV : ∀ j, stopV r (m + 1) j = [b0, b1, b2, b3, b4].getD j 0 := fun j => by unfold stopV; rw [Nat.add_sub_cancel, hg']
          have hbb : (0 ≤ b2 ∧ b2 ≤ 10000) ∧ (0 ≤ b3 ∧ b3 ≤ 10000) ∧ (0 ≤ b4 ∧ b4 ≤ 10000) := by
            simp only [stopOk, Bool.and_eq_true, fit_iff, decide_eq_true_eq] at hsk
            omega
          have hfz := HOX.out.frozenAt m
          have hol : wx.cell? ⟨w0.heap.size, m, none⟩ = some (.int .i64 (S.getD m 0)) := by
            rw [HOX.out.cellAt m (by omega)]
            simp [ints, List.getD_eq_getElem?_getD, List.getElem?_eq_getElem (show m < S.length by omega)]
          have htn : (l.getD (k + 1) 0).toNat = m + 1 := by rw [HYG.out]; omega
          have HSS : Hid (startN r D l (k + 1) t = if (t + d) < b2 then b2 else (t + d)) := by show _ = _; unfold startN; rw [htn, HU.out, hV]; rfl
          have HNT : Hid (tmGoN r D l S0 (k + 1 + 1) = if b3 < startN r D l (k + 1) t then none else some (startN r D l (k + 1) t + b4, S.set m (startN r D l (k + 1) t))) := by
            show _ = _
            rw [HN.out]
            show (if l.getD (k + 1) 0 = 0 then _ else if stopV r (l.getD (k + 1) 0).toNat 3 < startN r D l (k + 1) t then none else some (startN r D l (k + 1) t + stopV r (l.getD (k + 1) 0).toNat 4, S.set ((l.getD (k + 1) 0).toNat - 1) (startN r D l (k + 1) t))) = _
            rw [if_neg (by rw [HYG.out]; omega), htn, hV, hV]; rfl
          have h0w : w0.heap.size < wx.heap.size := own_cells_int HOX.out
          clear hsc hab hsk hV hg' hcl htn HN hz
          by_cases hearly : (t + d) < b2
          · have HSV : Hid (startN r D l (k + 1) t = b2) := by show _ = _; rw [HSS.out, if_pos hearly]
            by_cases hlate : b3 < b2
            · have HF : Hid (timeN r D l S0 = none) := timeN_late hql (by rw [HNT.out, HSV.out, if_pos hlate])
              go_wp2_with go_in
              all_goals
                go_ret
                refine ⟨ret_bool (by rw [HF.out]; simp), HBX.out.alloc HBX.out.size _, S, hSl, fun S' e => (by rw [HF.out] at e; cases e), HOX.out.alloc _⟩
            · have HNX : Hid (tmGoN r D l S0 (k + 1 + 1) = some (b2 + b4, S.set m (b2))) := by show _ = _; rw [HNT.out, HSV.out, if_neg hlate]
              have HST2 := hid (HOX.out.stored m (.int .i64 (b2))).1
              have HBS : Hid (Below w0.heap.size w0 (wx.setCell ⟨w0.heap.size, m, none⟩ (.int .i64 (b2)))) := HBX.out.setCell (Nat.le_refl _) _
              have HIS : Hid ((ints S).set m (.int .i64 (b2)) = ints (S.set m (b2))) := by show _ = _; simp [ints, List.map_set]
              go_wp2_with go_in
              go_roundw
              case rel =>
                refine ⟨k + 1 + 1, b2 + b4, S.set m (b2), by omega, by go_num, rfl, by omega, by simp [hSl], HNX, ?_, HBS.out.alloc HBS.out.size _⟩
                show World.ownsRow _ _ _ _ _ _ _
                rw [← HIS.out]; exact HST2.out.alloc _
              case measure => simp [intOf]; omega
          · have HSV : Hid (startN r D l (k + 1) t = (t + d)) := by show _ = _; rw [HSS.out, if_neg hearly]
            by_cases hlate : b3 < (t + d)
            · have HF : Hid (timeN r D l S0 = none) := timeN_late hql (by rw [HNT.out, HSV.out, if_pos hlate])
              go_wp2_with go_in
              all_goals
                go_ret
                refine ⟨ret_bool (by rw [HF.out]; simp), HBX.out.alloc HBX.out.size _, S, hSl, fun S' e => (by rw [HF.out] at e; cases e), HOX.out.alloc _⟩
            · have HNX : Hid (tmGoN r D l S0 (k + 1 + 1) = some ((t + d) + b4, S.set m ((t + d)))) := by show _ = _; rw [HNT.out, HSV.out, if_neg hlate]
              have HST2 := hid (HOX.out.stored m (.int .i64 ((t + d)))).1
              have HBS : Hid (Below w0.heap.size w0 (wx.setCell ⟨w0.heap.size, m, none⟩ (.int .i64 ((t + d))))) := HBX.out.setCell (Nat.le_refl _) _
              have HIS : Hid ((ints S).set m (.int .i64 ((t + d))) = ints (S.set m ((t + d)))) := by show _ = _; simp [ints, List.map_set]
              go_wp2_with go_in
              go_roundw
              case rel =>
                refine ⟨k + 1 + 1, (t + d) + b4, S.set m ((t + d)), by omega, by go_num, rfl, by omega, by simp [hSl], HNX, ?_, HBS.out.alloc HBS.out.size _⟩
                show World.ownsRow _ _ _ _ _ _ _
                rw [← HIS.out]; exact HST2.out.alloc _
              case measure => simp [intOf]; omega
    · have hqe : q = l.length := by omega
      have HF : Hid (timeN r D l S0 = some S) := by show _ = _; unfold timeN; rw [← hqe, HG.out]; rfl
      clear hqe
      go_wp2_with go_in
      go_ret
      refine ⟨ret_bool (by rw [HF.out]; simp), by first | exact HB.out | exact HB.out.drew, S, hSl, fun S' e => (by rw [HF.out] at e; cases e; rfl), HO.out⟩
end Go.Proofs.Ytebinaopncclgab
