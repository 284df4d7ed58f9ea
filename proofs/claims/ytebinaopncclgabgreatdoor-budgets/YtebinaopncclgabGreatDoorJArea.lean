/- Walks: a plan is judged. -/
import Derived.Test.YtebinaopncclgabGreatDoorJShape
namespace Go.Proofs.YtebinaopncclgabGreatDoor
open Go.RowKit Go.IntWalk

theorem StR.below {w w' : World} {v : Value} {r : Rd} (h : StR w v r) (hb : Below w.heap.size w w') : StR w' v r := by
  obtain ⟨ao, c, h1, h2⟩ := h
  refine ⟨ao, c, h1, fun i hi => ?_⟩
  obtain ⟨g, k1, k2, k3⟩ := h2 i hi
  exact ⟨g, k1, Nat.lt_of_lt_of_le k2 hb.size, fun j z hj hz => (hb.cell (by exact k2)).trans (k3 j z hj hz)⟩
/- an area, read -/
structure AreaAt (w : World) (p : Nat) (r : Rd) (D : Nat → Nat → Int) (vs vf : Value) : Prop where
  lt : p < w.heap.size
  c0 : w.cell? ⟨p, 0, none⟩ = some (.int .i64 r.vans)
  c1 : w.cell? ⟨p, 1, none⟩ = some (.int .i64 r.load)
  c2 : w.cell? ⟨p, 2, none⟩ = some (.int .i64 r.close)
  c5 : w.cell? ⟨p, 5, none⟩ = some vs
  c7 : w.cell? ⟨p, 7, none⟩ = some vf
  st : StR w vs r
  fr : SqR w vf (r.stops.length + 1) D
theorem AreaAt.below {w w' : World} {p : Nat} {r : Rd} {D : Nat → Nat → Int} {vs vf : Value} (h : AreaAt w p r D vs vf) (hb : Below w.heap.size w w') : AreaAt w' p r D vs vf :=
  ⟨Nat.lt_of_lt_of_le h.lt hb.size, (hb.cell (by exact h.lt)).trans h.c0, (hb.cell (by exact h.lt)).trans h.c1, (hb.cell (by exact h.lt)).trans h.c2, (hb.cell (by exact h.lt)).trans h.c5, (hb.cell (by exact h.lt)).trans h.c7, h.st.below hb, h.fr.below hb⟩
def judgeS (r : Rd) (D : Nat → Nat → Int) (l : List UInt8) : Int × Option (List Int) × Int :=
  if textFaultS r.stops.length l ≠ 0 then (0, none, textFaultS r.stops.length l)
  else if r.vans < ((routesS l).length : Int) then (0, none, 8)
  else if (routesS l).all (loadOk r) = false then (0, none, 9)
  else if (routesS l).all (wayOk D) = false then (0, none, 10)
  else match timesS r D (routesS l) (List.replicate r.stops.length 0) with
    | none => (0, none, 11)
    | some S => (lenTo D (routesS l), some S, 0)
def JudgeLeft (w : World) (n : Nat) (x : Int × Option (List Int) × Int) (e : Ending) (w' : World) : Prop :=
  ∃ v, e = .returned (.tuple #[.int .i64 x.1, v, .int .i64 x.2.2]) ∧ (x.2.1 = none → v = .slice none 0 0) ∧ (∀ S, x.2.1 = some S → w'.ownsRow w.heap.size 3 1 v n (ints S) ∧ S.length = n ∧ v ≠ .slice none 0 0) ∧ Below w.heap.size w w'

set_option maxRecDepth 100000 in
set_option maxHeartbeats 4000000 in
theorem ajudge_any (p : Nat) (r : Rd) (D : Nat → Nat → Int) (s : ByteArray) (vs vf : Value) (w : World) (hs : s.size ≤ maxLen) (hok : RdOk r) (ha : AreaAt w p r D vs vf) (hD : ∀ a b, a < r.stops.length + 1 → b < r.stops.length + 1 → -1 ≤ D a b ∧ D a b ≤ 40960000) :
    Calls Tryz.prog 105 #[.pointer (some ⟨p, 0, none⟩), .string s] w (JudgeLeft w r.stops.length (judgeS r D s.data.toList)) := by
  obtain ⟨i0, hi, hz0, hz1, hz2⟩ := info_parts Tryz.infoInt
  have hn7 := hok.nstops
  have HC1 := hid (textFault_any r.stops.length s w hn7 hs)
  obtain ⟨aos, cps, hvs, _⟩ := ha.st
  subst hvs
  have h5 := ha.c5
  have hpw := ha.lt
  have HA := hid ha
  have HOK := hid hok
  have HD := hid hD
  clear ha hok hD
  by_cases hf : textFaultS r.stops.length s.data.toList ≠ 0
  · have HF : Hid (judgeS r D s.data.toList = (0, none, textFaultS r.stops.length s.data.toList)) := by show _ = _; unfold judgeS; rw [if_pos hf]
    rw [HF.out]
    generalize textFaultS r.stops.length s.data.toList = f at *
    have e1 : (f != 0) = true := by simpa using hf
    go_enter Tryz.func105, Tryz.ntmps105
    go_wp2_with (first
      | (go_at_call 166; refine HC1.out.mono ?_; rintro e1 w1 ⟨rfl, hb1⟩)
      | go_in)
    go_ret3
    exact ⟨_, rfl, fun _ => rfl, fun S e => (by cases e), hb1⟩
  · have hf0 : textFaultS r.stops.length s.data.toList = 0 := by omega
    have HCLO : Hid (0 ≤ r.close) := by
      have := HOK.out.head
      simp only [headOk, Bool.and_eq_true, fit_iff, decide_eq_true_eq] at this
      show _ ≤ _
      omega
    obtain ⟨hsz, hpl, _⟩ := fine_size hf0
    have hsz2 : s.size ≤ 14 := by have : s.data.toList.length = s.size := by simp
                                  omega
    have HC2 : Hid (∀ W, Calls Tryz.prog 167 #[.string s] W fun e w' => ∃ v vs, e = .returned v ∧ Rts w' W.heap.size w'.heap.size v (routesS s.data.toList) vs ∧ Below W.heap.size W w') := fun W => routes_any s W (by omega) (fun k hk => by
      rcases plan_byte hpl (k := k) (by simpa using hk) with h | h
      · exact .inl h
      · exact .inr h.1)
    have hcount : (routesS s.data.toList).length ≤ 1000 := by have h1 := routes_count s.data.toList; have : s.data.toList.length = s.size := by simp
                                                              omega
    have HSH : Hid (∀ l ∈ routesS s.data.toList, l.length ≤ 1000 ∧ (∀ x ∈ l, 0 ≤ x ∧ x < ((r.stops.length : Nat) : Int) + 1) ∧ ∀ j, j + 2 < l.length → l.getD (j + 1) 0 ≠ 0) := fun l hl => by
      have h1 := (routes_shape hpl l hl).sites
      have : s.data.toList.length = s.size := by simp
      exact ⟨by omega, h1.2.1, h1.2.2⟩
    have HTE : Hid (∀ S, timesN r D (routesS s.data.toList) S = timesS r D (routesS s.data.toList) S) := fun S => timesN_same S fun l hl S => (routes_shape hpl l hl).times HCLO.out D S
    rw [hf0] at HC1
    have HJ : Hid (judgeS r D s.data.toList = if r.vans < ((routesS s.data.toList).length : Int) then ((0 : Int), (none : Option (List Int)), (8 : Int)) else if (routesS s.data.toList).all (loadOk r) = false then (0, none, 9) else if (routesS s.data.toList).all (wayOk D) = false then (0, none, 10)
      else match timesS r D (routesS s.data.toList) (List.replicate r.stops.length 0) with
        | none => (0, none, 11)
        | some S => (lenTo D (routesS s.data.toList), some S, 0)) := by show _ = _; unfold judgeS; rw [if_neg hf]
    generalize routesS s.data.toList = L at *
    clear hsz hpl hf hf0
    have HC3 : Hid (∀ W v, Below w.heap.size w W → RtR W v L → Calls Tryz.prog 168 #[.pointer (some ⟨p, 0, none⟩), v] W fun e w' => e = .returned (.bool (L.all (loadOk r))) ∧ Below W.heap.size W w') := fun W v hW hv => by
      have hA := HA.out.below hW
      exact allLoad_any p r L _ v W hA.lt HOK.out hA.c1 hA.c5 hA.st hv (fun l hl => ⟨(HSH.out l hl).1, (HSH.out l hl).2.1⟩)
    have HC4 : Hid (∀ W v, Below w.heap.size w W → RtR W v L → Calls Tryz.prog 169 #[.pointer (some ⟨p, 0, none⟩), v] W fun e w' => e = .returned (.bool (L.all (wayOk D))) ∧ Below W.heap.size W w') := fun W v hW hv => by
      have hA := HA.out.below hW
      exact allHaveWays_any p (r.stops.length + 1) D L _ v W hA.lt hA.c7 hA.fr hv (fun l hl => ⟨(HSH.out l hl).1, by have := (HSH.out l hl).2.1; intro x hx; have := this x hx; omega⟩)
    have HC6 : Hid (∀ W v, Below w.heap.size w W → RtR W v L → Calls Tryz.prog 171 #[.pointer (some ⟨p, 0, none⟩), v] W fun e w' => e = .returned (.int .i64 (lenTo D L)) ∧ Below W.heap.size W w') := fun W v hW hv => by
      have hA := HA.out.below hW
      exact length_any p (r.stops.length + 1) D L _ v W hA.lt hA.c7 hA.fr HD.out hv (fun l hl => ⟨(HSH.out l hl).1, by have := (HSH.out l hl).2.1; intro x hx; have := this x hx; omega⟩)
    have HC5 : Hid (∀ W W1 v, Below w.heap.size w W → RtR W v L → Below W.heap.size W W1 → W1.ownsRow W.heap.size 3 1 (.slice (some ⟨W.heap.size, 0, none⟩) r.stops.length r.stops.length) r.stops.length (ints (List.replicate r.stops.length 0)) → Calls Tryz.prog 170 #[.pointer (some ⟨p, 0, none⟩), v, .slice (some ⟨W.heap.size, 0, none⟩) r.stops.length r.stops.length] W1 fun e w' =>
      e = .returned (.bool (timesS r D L (List.replicate r.stops.length 0)).isSome) ∧ Below W.heap.size W w' ∧ ∃ S, S.length = r.stops.length ∧ (∀ S', timesS r D L (List.replicate r.stops.length 0) = some S' → S = S') ∧ w'.ownsRow W.heap.size 3 1 (.slice (some ⟨W.heap.size, 0, none⟩) r.stops.length r.stops.length) r.stops.length (ints S)) := fun W W1 v hW hv hW1 ho => by
      have hA := HA.out.below hW
      rw [← HTE.out]
      exact allInTime_any p r D L _ _ _ v W W1 hW1 hA.lt HOK.out hA.c2 hA.c5 hA.st hA.c7 hA.fr HD.out hv (fun l hl => ⟨(HSH.out l hl).1, (HSH.out l hl).2.1⟩) (by simp) ho
    have HVN : Hid (0 ≤ r.vans ∧ r.vans ≤ 10000) := by
      have := HOK.out.head
      simp only [headOk, Bool.and_eq_true, fit_iff, decide_eq_true_eq] at this
      show _ ∧ _
      omega
    generalize L.all (loadOk r) = bl at *
    generalize L.all (wayOk D) = bw at *
    generalize timesS r D L (List.replicate r.stops.length 0) = ts at *
    generalize lenTo D L = cost at *
    generalize judgeS r D s.data.toList = J at *
    have hvn := HVN.out
    by_cases hv : r.vans < (L.length : Int)
    · rw [if_pos hv] at HJ
      rw [HJ.out]
      go_enter Tryz.func105, Tryz.ntmps105
      go_wp2_with (first
        | (go_at_call 166; refine HC1.out.mono ?_; rintro e1 w1 ⟨rfl, hb1⟩)
        | (go_at_call 167; refine (HC2.out _).mono ?_; rintro e2 w2 ⟨v2, vs2, rfl, hr2, hb2⟩; have HR2 := hid (hr2.read hcount); have HB2 := hid (hb1.trans (hb2.mono hb1.size)); obtain ⟨al, cl, rfl, _⟩ := hr2.read hcount; have d0 := (HA.out.below HB2.out).c0; have hpw2 := (HA.out.below HB2.out).lt; clear hr2)
        | go_in)
      go_ret3
      exact ⟨_, rfl, fun _ => rfl, fun S e => (by cases e), HB2.out⟩
    rw [if_neg hv] at HJ
    cases bl
    · rw [if_pos rfl] at HJ
      rw [HJ.out]
      go_enter Tryz.func105, Tryz.ntmps105
      go_wp2_with (first
        | (go_at_call 166; refine HC1.out.mono ?_; rintro e1 w1 ⟨rfl, hb1⟩)
        | (go_at_call 167; refine (HC2.out _).mono ?_; rintro e2 w2 ⟨v2, vs2, rfl, hr2, hb2⟩; have HR2 := hid (hr2.read hcount); have HB2 := hid (hb1.trans (hb2.mono hb1.size)); obtain ⟨al, cl, rfl, _⟩ := hr2.read hcount; have d0 := (HA.out.below HB2.out).c0; have hpw2 := (HA.out.below HB2.out).lt; clear hr2)
        | (go_at_call 168; refine (HC3.out _ _ HB2.out HR2.out).mono ?_; rintro e3 w3 ⟨rfl, hb3⟩)
        | go_in)
      go_ret3
      exact ⟨_, rfl, fun _ => rfl, fun S e => (by cases e), HB2.out.trans (hb3.mono HB2.out.size)⟩
    rw [if_neg (by simp)] at HJ
    cases bw
    · rw [if_pos rfl] at HJ
      rw [HJ.out]
      go_enter Tryz.func105, Tryz.ntmps105
      go_wp2_with (first
        | (go_at_call 166; refine HC1.out.mono ?_; rintro e1 w1 ⟨rfl, hb1⟩)
        | (go_at_call 167; refine (HC2.out _).mono ?_; rintro e2 w2 ⟨v2, vs2, rfl, hr2, hb2⟩; have HR2 := hid (hr2.read hcount); have HB2 := hid (hb1.trans (hb2.mono hb1.size)); obtain ⟨al, cl, rfl, _⟩ := hr2.read hcount; have d0 := (HA.out.below HB2.out).c0; have hpw2 := (HA.out.below HB2.out).lt; clear hr2)
        | (go_at_call 168; refine (HC3.out _ _ HB2.out HR2.out).mono ?_; rintro e3 w3 ⟨rfl, hb3⟩)
        | (go_at_call 169; refine (HC4.out _ _ (HB2.out.trans (hb3.mono HB2.out.size)) (HR2.out.below hb3)).mono ?_; rintro e4 w4 ⟨rfl, hb4⟩; have HB4 := hid ((HB2.out.trans (hb3.mono HB2.out.size)).trans (hb4.mono (Nat.le_trans HB2.out.size hb3.size))); have HR4 := hid ((HR2.out.below hb3).below hb4); have d5 := (HA.out.below HB4.out).c5; have hpw4 := (HA.out.below HB4.out).lt)
        | go_in)
      go_ret3
      exact ⟨_, rfl, fun _ => rfl, fun S e => (by cases e), HB4.out⟩
    rw [if_neg (by simp)] at HJ
    go_enter Tryz.func105, Tryz.ntmps105
    go_wp2_with (first
      | (go_at_call 166; refine HC1.out.mono ?_; rintro e1 w1 ⟨rfl, hb1⟩)
      | (go_at_call 167; refine (HC2.out _).mono ?_; rintro e2 w2 ⟨v2, vs2, rfl, hr2, hb2⟩; have HR2 := hid (hr2.read hcount); have HB2 := hid (hb1.trans (hb2.mono hb1.size)); obtain ⟨al, cl, rfl, _⟩ := hr2.read hcount; have d0 := (HA.out.below HB2.out).c0; have hpw2 := (HA.out.below HB2.out).lt; clear hr2)
      | (go_at_call 168; refine (HC3.out _ _ HB2.out HR2.out).mono ?_; rintro e3 w3 ⟨rfl, hb3⟩)
      | (go_at_call 169; refine (HC4.out _ _ (HB2.out.trans (hb3.mono HB2.out.size)) (HR2.out.below hb3)).mono ?_; rintro e4 w4 ⟨rfl, hb4⟩; have HB4 := hid ((HB2.out.trans (hb3.mono HB2.out.size)).trans (hb4.mono (Nat.le_trans HB2.out.size hb3.size))); have HR4 := hid ((HR2.out.below hb3).below hb4); have d5 := (HA.out.below HB4.out).c5; have hpw4 := (HA.out.below HB4.out).lt)
      | (at_make; refine wpList_make_full _ rfl _ _ 40 rfl w4.heap.size 3 i0 (.int .i64 0) 1 Tryz.underlying40 hi hz0 hz1 .i64 .i64 _ _ r.stops.length rfl rfl ?m1 ?m2 ?m3 ?m4 ?m5 ?_)
      | go_in)
    case m1 => rfl
    case m2 => rfl
    case m3 => rw [hz2]; omega
    case m4 => unfold maxLen; omega
    case m5 => exact Nat.le_refl _
    intro w5 hown5 hgr5
    have hb5 : Below w4.heap.size w4 w5 := (Below.refl _ _).grown hgr5 (Nat.le_refl _) (by simp)
    have ho5 : w5.ownsRow w4.heap.size 3 1 (.slice (some ⟨w4.heap.size, 0, none⟩) r.stops.length r.stops.length) r.stops.length (ints (List.replicate r.stops.length 0)) := by
      have e : (madeCells #[Value.int IntKind.i64 0] r.stops.length).toList = ints (List.replicate r.stops.length 0) := by rw [toList_madeCells_one]; simp [ints]
      rw [← e]; exact hown5
    have HC7 := hid (HC5.out w4 w5 _ HB4.out HR4.out hb5 ho5)
    clear hown5 hgr5
    cases ts with
    | none =>
      have HJ2 : Hid (J = (0, none, 11)) := HJ.out
      go_wp2_with (go_at_call 170; refine HC7.out.mono ?_; rintro e6 w6 ⟨rfl, hb6, S6, hs6, hq6, ho6⟩)
      go_ret3
      rw [HJ2.out]
      exact ⟨_, rfl, fun _ => rfl, fun S e => (by cases e), HB4.out.trans (hb6.mono HB4.out.size)⟩
    | some S =>
      have HJ2 : Hid (J = (cost, some S, 0)) := HJ.out
      go_wp2_with (first
        | (go_at_call 170; refine HC7.out.mono ?_; rintro e6 w6 ⟨rfl, hb6, S6, hs6, hq6, ho6⟩)
        | (go_at_call 171; refine (HC6.out _ _ (HB4.out.trans (hb6.mono HB4.out.size)) (HR4.out.below hb6)).mono ?_; rintro e7 w7 ⟨rfl, hb7⟩))
      go_ret3
      rw [HJ2.out]
      refine ⟨_, rfl, fun e => (by cases e), fun S' e => ?_, (HB4.out.trans (hb6.mono HB4.out.size)).trans (hb7.mono (Nat.le_trans HB4.out.size hb6.size))⟩
      cases e
      have := hq6 S rfl
      subst this
      exact ⟨own_base (own_below ho6 hb7) HB4.out.size, hs6, by simp⟩
end Go.Proofs.YtebinaopncclgabGreatDoor
