/- Walks: a chain of sites that no van can go along. -/
import Derived.Test.YtebinaopncclgabGreatDoorGBase
import Derived.Test.YtebinaopncclgabGreatDoorQJudge
import Derived.Test.YtebinaopncclgabGreatDoorJArea
namespace Go.Proofs.YtebinaopncclgabGreatDoor
open Go.RowKit Go.IntWalk

structure ChainP (n : Nat) (zs : List Int) : Prop where
  ne : zs ≠ []
  sites : ∀ x ∈ zs, 0 ≤ x ∧ x ≤ (n : Int)
  ends : endsZ zs
def siteOk (n : Nat) (zs : List Int) (j : Nat) : Prop := 0 ≤ zs.getD j 0 ∧ zs.getD j 0 ≤ (n : Int) ∧ (zs.getD j 0 = 0 → j = 0 ∨ j + 1 = zs.length)
theorem chainP_iff {n : Nat} {zs : List Int} : ChainP n zs ↔ 0 < zs.length ∧ ∀ j, j < zs.length → siteOk n zs j := by
  constructor
  · intro h
    refine ⟨by cases zs with | nil => exact absurd rfl h.ne | cons a t => simp, fun j hj => ?_⟩
    have h1 := h.sites _ (getD_mem hj)
    refine ⟨h1.1, h1.2, fun h0 => ?_⟩
    false_or_by_contra
    rename_i hno
    obtain ⟨i, rfl⟩ : ∃ i, j = i + 1 := ⟨j - 1, by omega⟩
    exact h.ends i (by omega) h0
  · rintro ⟨h1, h2⟩
    refine ⟨fun e => by rw [e] at h1; simp at h1, fun x hx => ?_, fun i hi h0 => ?_⟩
    · obtain ⟨j, hj, rfl⟩ := List.mem_iff_getElem.1 hx
      have := h2 j hj
      unfold siteOk at this
      rw [List.getD_eq_getElem?_getD, List.getElem?_eq_getElem hj, Option.getD_some] at this
      exact ⟨this.1, this.2.1⟩
    · have := (h2 (i + 1) (by omega)).2.2 h0
      omega

open Classical in
set_option maxRecDepth 100000 in
set_option maxHeartbeats 2000000 in
theorem isChain_any (p n : Nat) (D : Nat → Nat → Int) (v vf : Value) (zs : List Int) (w : World) (hl : zs.length ≤ 20) (hr : ListR w v zs) (_hn : n ≤ 7) (hp : p < w.heap.size) (h7 : w.cell? ⟨p, 7, none⟩ = some vf) (hq : SqR w vf (n + 1) D) :
    Calls Tryz.prog 226 #[.pointer (some ⟨p, 0, none⟩), v] w fun e w' => e = .returned (.bool (decide (ChainP n zs))) ∧ Below w.heap.size w w' := by
  obtain ⟨ao, c, rfl, hr⟩ := hr
  obtain ⟨af, cf, rfl, _, _⟩ := hq
  have HR := hid hr
  clear hr
  go_enter Tryz.func226, Tryz.ntmps226
  go_wp2_with fail
  go_loopw [5] (fun i wr => ∃ a : Nat, i = .int .i64 a ∧ a ≤ zs.length ∧ Hid (∀ j, j < a → siteOk n zs j) ∧ Hid (Below w.heap.size w wr)) (fun i _ => zs.length - (intOf i).toNat)
  case atStart => exact ⟨0, rfl, by omega, fun i h => absurd h (by omega), Below.refl _ _⟩
  case round =>
    obtain ⟨a, rfl, ha, HN, HB⟩ := hrel
    by_cases hlt : a < zs.length
    · obtain ⟨g, hao, hgl, hca⟩ := HR.out a hlt
      subst hao
      have x0 : wr.cell? ⟨g, a, none⟩ = _ := (HB.out.cell (by exact hgl)).trans hca
      have x7 : wr.cell? ⟨p, 7, none⟩ = _ := (HB.out.cell (by exact hp)).trans h7
      have xl : g < wr.heap.size := Nat.lt_of_lt_of_le hgl HB.out.size
      have xp : p < wr.heap.size := Nat.lt_of_lt_of_le hp HB.out.size
      have ia : (0 : Int) ≤ (a : Int) := by omega
      have ja : (a : Int) < (zs.length : Int) := by omega
      have HT : Hid (siteOk n zs a ↔ 0 ≤ zs.getD a 0 ∧ zs.getD a 0 ≤ (n : Int) ∧ (zs.getD a 0 = 0 → a = 0 ∨ a + 1 = zs.length)) := Iff.rfl
      generalize zs.getD a 0 = x at *
      clear hca
      by_cases e1 : 0 ≤ x
      · have b1 : decide (x < 0) = false := by simp; omega
        by_cases e2 : x < ((n : Int) + 1)
        · have b2 : decide ((n : Int) + 1 ≤ x) = false := by simp; omega
          by_cases e3 : x = 0
          · have b3 : (x == 0) = true := by simp [e3]
            by_cases e4 : a = 0
            · have b4 : ((a : Int) != 0) = false := by simp [e4]
              have HG : Hid (siteOk n zs a) := HT.out.2 ⟨e1, by omega, fun _ => .inl e4⟩
              clear e1 e2 e3 e4 HT
              go_wp2_with go_in
              go_quiet (fail)
              go_wp2_with go_in
              refine ⟨⟨a + 1, by go_num, by omega, fun j hj => ?_, below_dn HB.out _⟩, by simp [intOf]; omega⟩
              by_cases hja : j = a
              · rw [hja]; exact HG.out
              · exact HN.out j (by omega)
            · have b4 : ((a : Int) != 0) = true := by simpa using e4
              by_cases e5 : a + 1 = zs.length
              · have b5 : ((a : Int) != (zs.length : Int) - 1) = false := by simp; omega
                have HG : Hid (siteOk n zs a) := HT.out.2 ⟨e1, by omega, fun _ => .inr e5⟩
                clear e1 e2 e3 e4 e5 HT
                go_wp2_with go_in
                go_quiet (fail)
                go_wp2_with go_in
                refine ⟨⟨a + 1, by go_num, by omega, fun j hj => ?_, below_dn HB.out _⟩, by simp [intOf]; omega⟩
                by_cases hja : j = a
                · rw [hja]; exact HG.out
                · exact HN.out j (by omega)
              · have b5 : ((a : Int) != (zs.length : Int) - 1) = true := by simp; omega
                have HG : Hid (¬ siteOk n zs a) := fun h => by have := (HT.out.1 h).2.2 e3; omega
                clear e1 e2 e3 e4 e5 HT
                go_wp2_with go_in
                go_quiet (fail)
                go_wp2_with go_in
                go_ret
                refine ⟨retB ?_, below_dn HB.out _⟩
                symm
                rw [decide_eq_false_iff_not, chainP_iff]
                exact fun h => HG.out (h.2 a hlt)
          · have b3 : (x == 0) = false := by simp [e3]
            have HG : Hid (siteOk n zs a) := HT.out.2 ⟨e1, by omega, fun h => absurd h e3⟩
            clear e1 e2 e3 HT
            go_wp2_with go_in
            go_quiet (fail)
            go_wp2_with go_in
            refine ⟨⟨a + 1, by go_num, by omega, fun j hj => ?_, below_dn HB.out _⟩, by simp [intOf]; omega⟩
            by_cases hja : j = a
            · rw [hja]; exact HG.out
            · exact HN.out j (by omega)
        · have b2 : decide ((n : Int) + 1 ≤ x) = true := by simp; omega
          have HG : Hid (¬ siteOk n zs a) := fun h => by have := (HT.out.1 h).2.1; omega
          clear e1 e2 HT
          go_wp2_with go_in
          go_quiet (fail)
          go_wp2_with go_in
          go_ret
          refine ⟨retB ?_, below_dn HB.out _⟩
          symm
          rw [decide_eq_false_iff_not, chainP_iff]
          exact fun h => HG.out (h.2 a hlt)
      · have b1 : decide (x < 0) = true := by simp; omega
        have HG : Hid (¬ siteOk n zs a) := fun h => by have := (HT.out.1 h).1; omega
        clear e1 HT
        go_wp2_with go_in
        go_quiet (fail)
        go_wp2_with go_in
        go_ret
        refine ⟨retB ?_, below_dn HB.out _⟩
        symm
        rw [decide_eq_false_iff_not, chainP_iff]
        exact fun h => HG.out (h.2 a hlt)
    · go_wp2_with go_in
      go_ret
      refine ⟨retB ?_, HB.out⟩
      rw [Bool.eq_iff_iff, decide_eq_true_eq, decide_eq_true_eq, chainP_iff]
      constructor
      · intro h; exact ⟨by omega, fun j hj => HN.out j (by omega)⟩
      · intro h; omega

/- a chain twice through a stop -/
theorem twice_iff {zs : List Int} (hz : ∀ x ∈ zs, 0 ≤ x) : (∃ i k, i < zs.length ∧ k < i ∧ twiceP zs i k) ↔ twiceQ (zs.map Int.toNat) := by
  unfold twiceQ
  induction zs with
  | nil => simp
  | cons a t ih =>
    have ih := ih (fun x hx => hz x (List.mem_cons_of_mem _ hx))
    have ha := hz a (by simp)
    rw [List.map_cons]
    have key : (∃ i k, i < (a :: t).length ∧ k < i ∧ twiceP (a :: t) i k) ↔ (a ≠ 0 ∧ a ∈ t) ∨ ∃ i k, i < t.length ∧ k < i ∧ twiceP t i k := by
      constructor
      · rintro ⟨i, k, h1, h2, h3⟩
        obtain ⟨j, rfl⟩ : ∃ j, i = j + 1 := ⟨i - 1, by omega⟩
        have hj : j < t.length := by simpa using h1
        cases k with
        | zero =>
          left
          have e : t.getD j 0 = a ∧ t.getD j 0 ≠ 0 := h3
          exact ⟨e.1 ▸ e.2, e.1 ▸ getD_mem hj⟩
        | succ k => right; exact ⟨j, k, hj, by omega, h3⟩
      · rintro (⟨h1, h2⟩ | ⟨i, k, h1, h2, h3⟩)
        · obtain ⟨j, hj, he⟩ := List.mem_iff_getElem.1 h2
          refine ⟨j + 1, 0, by simpa using hj, by omega, ?_⟩
          have e : t.getD j 0 = a := by rw [List.getD_eq_getElem?_getD, List.getElem?_eq_getElem hj]; exact he
          show t.getD j 0 = a ∧ t.getD j 0 ≠ 0
          rw [e]; exact ⟨rfl, h1⟩
        · exact ⟨i + 1, k + 1, by simpa using h1, by omega, h3⟩
    rw [key, ih]
    by_cases h0 : a = 0
    · subst h0
      rw [List.filter_cons_of_neg (by simp)]
      simp
    · have h1 : a.toNat ≠ 0 := by omega
      rw [List.filter_cons_of_pos (by simpa using h1), List.nodup_cons]
      have hm : a.toNat ∈ (t.map Int.toNat).filter (fun s => decide (s ≠ 0)) ↔ a ∈ t := by
        rw [List.mem_filter, List.mem_map]
        constructor
        · rintro ⟨⟨y, hy, he⟩, _⟩
          have := hz y (List.mem_cons_of_mem _ hy)
          have : y = a := by omega
          exact this ▸ hy
        · intro h; exact ⟨⟨a, h, rfl⟩, by simpa using h1⟩
      rw [hm]
      constructor
      · rintro (⟨_, h⟩ | h)
        · exact fun hc => hc.1 h
        · exact fun hc => h hc.2
      · intro h
        by_cases hat : a ∈ t
        · exact .inl ⟨h0, hat⟩
        · exact .inr (fun hc => h ⟨hat, hc⟩)
theorem zL_back {zs : List Int} (hz : ∀ x ∈ zs, 0 ≤ x) : zL (zs.map Int.toNat) = zs := by
  unfold zL
  rw [List.map_map]
  conv => rhs; rw [← List.map_id zs]
  exact List.map_congr_left fun x hx => Int.toNat_of_nonneg (hz x hx)
theorem blocked_iff {r : Rd} {D : Nat → Nat → Int} {zs : List Int} (hz : ∀ x ∈ zs, 0 ≤ x) (S : List Int) : BlockedQ (insOf r D) (zs.map Int.toNat) ↔ ((∃ i k, i < zs.length ∧ k < i ∧ twiceP zs i k) ∨ loadOk r zs = false ∨ wayOk D zs = false ∨ (timeN r D zs S).isSome = false) := by
  have e := zL_back hz
  have h1 : wantTo r zs = sumW (insOf r D) (zs.map Int.toNat) := by rw [← want_z, e]
  have h2 : wayOk D zs = true ↔ ∀ p ∈ nbr (zs.map Int.toNat), D p.1 p.2 ≠ -1 := by rw [← way_z, e]
  have h3 : (timeN r D zs S).isSome = chainT (insOf r D) (zs.map Int.toNat) := by rw [← time_z, e]
  have h4 : loadOk r zs = false ↔ (insOf r D).load < sumW (insOf r D) (zs.map Int.toNat) := by
    unfold loadOk; rw [h1, decide_eq_false_iff_not]; show ¬ _ ≤ r.load ↔ r.load < _; omega
  have h5 : wayOk D zs = false ↔ ∃ p ∈ nbr (zs.map Int.toNat), (insOf r D).D p.1 p.2 = -1 := by
    rw [← Bool.not_eq_true, h2]
    constructor
    · intro h; false_or_by_contra; rename_i hc; exact h fun p hp he => hc ⟨p, hp, he⟩
    · rintro ⟨p, hp, he⟩ h; exact h p hp he
  rw [h3, h4, h5, twice_iff hz]
  exact ⟨fun h => h.why, fun h => ⟨h⟩⟩

open Classical in
set_option maxRecDepth 100000 in
set_option maxHeartbeats 4000000 in
theorem blocked_any (p : Nat) (r : Rd) (D : Nat → Nat → Int) (v vs vf : Value) (zs : List Int) (w : World) (hl : zs.length ≤ 20) (hr : ListR w v zs) (hok : RdOk r) (ha : AreaAt w p r D vs vf) (hD : ∀ a b, a < r.stops.length + 1 → b < r.stops.length + 1 → -1 ≤ D a b ∧ D a b ≤ 40960000) :
    Calls Tryz.prog 219 #[.pointer (some ⟨p, 0, none⟩), v] w fun e w' => e = .returned (.bool (decide (ChainP r.stops.length zs ∧ BlockedQ (insOf r D) (zs.map Int.toNat)))) ∧ Below w.heap.size w w' := by
  obtain ⟨i0, hi, hz0, hz1, hz2⟩ := info_parts Tryz.infoInt
  have hns := hok.nstops
  have HIC := hid (isChain_any p r.stops.length D v vf zs w hl hr hns ha.lt ha.c7 ha.fr)
  have HTW : Hid (∀ W, Below w.heap.size w W → Calls Tryz.prog 227 #[v] W fun e w' => e = .returned (.bool (decide (∃ i k, i < zs.length ∧ k < i ∧ twiceP zs i k))) ∧ Below W.heap.size W w') := fun W hW => hasTwice_any v zs W hl (hr.below hW)
  have HA := hid ha
  have HOK := hid hok
  have HD := hid hD
  have HR := hid hr
  obtain ⟨aos, cps, hvs, _⟩ := ha.st
  subst hvs
  obtain ⟨ao, c, rfl, _⟩ := hr
  clear ha hok hD
  by_cases hc : ChainP r.stops.length zs
  · have b1 : decide (ChainP r.stops.length zs) = true := by simpa using hc
    have hz : ∀ x ∈ zs, 0 ≤ x ∧ x < (r.stops.length : Int) + 1 := fun x hx => by have := hc.sites x hx; omega
    have hne : 0 < zs.length := (chainP_iff.1 hc).1
    obtain ⟨g, hao, hgl, _⟩ : ∃ g, ao = some ⟨g, 0, none⟩ ∧ g < w.heap.size ∧ _ := by
      obtain ⟨ao', c', hv, h⟩ := HR.out
      cases hv
      exact h 0 hne
    subst hao
    have HBI := hid (fun S => blocked_iff (r := r) (D := D) (fun x hx => (hz x hx).1) S)
    have HEQ : Hid (∀ b : Bool, (b = true ↔ BlockedQ (insOf r D) (zs.map Int.toNat)) → b = decide (ChainP r.stops.length zs ∧ BlockedQ (insOf r D) (zs.map Int.toNat))) := fun b h => by
      rw [Bool.eq_iff_iff, decide_eq_true_eq, h]; exact ⟨fun h => ⟨hc, h⟩, fun h => h.2⟩
    have HC := hid hc
    rw [b1] at HIC
    generalize hT : decide (∃ i k, i < zs.length ∧ k < i ∧ twiceP zs i k) = bt at *
    have HT := hid hT
    clear hc b1 hT
    cases bt
    · go_enter Tryz.func219, Tryz.ntmps219
      go_wp2_with fail
      refine HIC.out.mono ?_
      rintro e1 w1 ⟨rfl, hb1⟩
      have HB1 := hid hb1
      clear hb1
      go_wp2_with fail
      refine (HTW.out _ HB1.out).mono ?_
      rintro e2 w2 ⟨rfl, hb2⟩
      have HB2 : Hid (Below w.heap.size w w2) := HB1.out.trans (hb2.mono HB1.out.size)
      clear hb2
      have HTF : Hid (¬ ∃ i k, i < zs.length ∧ k < i ∧ twiceP zs i k) := of_decide_eq_false HT.out
      obtain ⟨W, hWq⟩ : ∃ W, W = w2.alloc (.cells #[.slice (some ⟨g, 0, none⟩) zs.length c] 40) := ⟨_, rfl⟩
      have HWQ := hid hWq
      have HBW : Hid (Below w.heap.size w W) := by rw [hWq]; exact HB2.out.alloc HB2.out.size _
      have HAW := hid (HA.out.below HBW.out)
      have HRT : Hid (RtR W (.slice (some ⟨w2.heap.size, 0, none⟩) 1 1) [zs]) := by
        refine ⟨_, _, rfl, by simp, fun i hi => ?_⟩
        have hi0 : i = 0 := by simpa using hi
        subst hi0
        refine ⟨w2.heap.size, g, c, rfl, by rw [hWq]; simp, ?_, Nat.lt_of_lt_of_le hgl HBW.out.size, fun j hj => ?_⟩
        · rw [hWq]; exact cell_of_row _ _ _ _ _ _ (heap_alloc_new w2 _)
        · obtain ⟨ao', c', hv, h⟩ := HR.out
          cases hv
          obtain ⟨g', e1, e2, e3⟩ := h j hj
          cases e1
          rw [HBW.out.cell (by exact hgl), e3]
          have hj' : j < zs.length := hj
          show some (Value.int .i64 (zs.getD j 0)) = some (.int .i64 zs[j])
          rw [List.getD_eq_getElem?_getD, List.getElem?_eq_getElem hj', Option.getD_some]
      have HX : Hid (∀ l ∈ [zs], l.length ≤ 1000 ∧ ∀ x ∈ l, 0 ≤ x ∧ x < (r.stops.length : Int) + 1) := fun l hm => by
        have : l = zs := by simpa using hm
        subst this; exact ⟨by omega, hz⟩
      have HCL := hid (allLoad_any p r [zs] _ _ W HAW.out.lt HOK.out HAW.out.c1 HAW.out.c5 HAW.out.st HRT.out HX.out)
      have HCW : Hid (∀ W', Below W.heap.size W W' → Calls Tryz.prog 169 #[.pointer (some ⟨p, 0, none⟩), .slice (some ⟨w2.heap.size, 0, none⟩) 1 1] W' fun e w' => e = .returned (.bool ([zs].all (wayOk D))) ∧ Below W'.heap.size W' w') := fun W' hW' => by
        have hA := HAW.out.below hW'
        exact allHaveWays_any p (r.stops.length + 1) D [zs] _ _ W' hA.lt hA.c7 hA.fr (HRT.out.below hW') (fun l hm => ⟨(HX.out l hm).1, fun x hx => by have := (HX.out l hm).2 x hx; omega⟩)
      have HCT : Hid (∀ W' W1, Below W.heap.size W W' → Below W'.heap.size W' W1 → W1.ownsRow W'.heap.size 3 1 (.slice (some ⟨W'.heap.size, 0, none⟩) r.stops.length r.stops.length) r.stops.length (ints (List.replicate r.stops.length 0)) → Calls Tryz.prog 170 #[.pointer (some ⟨p, 0, none⟩), .slice (some ⟨w2.heap.size, 0, none⟩) 1 1, .slice (some ⟨W'.heap.size, 0, none⟩) r.stops.length r.stops.length] W1 fun e w' => e = .returned (.bool (timesN r D [zs] (List.replicate r.stops.length 0)).isSome) ∧ Below W'.heap.size W' w') := fun W' W1 hW' hW1 ho => by
        have hA := HAW.out.below hW'
        refine (allInTime_any p r D [zs] _ _ _ _ W' W1 hW1 hA.lt HOK.out hA.c2 hA.c5 hA.st hA.c7 hA.fr HD.out (HRT.out.below hW') HX.out (by simp) ho).mono ?_
        rintro e w' ⟨h1, h2, _⟩
        exact ⟨h1, h2⟩
      have HLL : Hid ([zs].all (loadOk r) = loadOk r zs) := by show _ = _; simp
      have HWW : Hid ([zs].all (wayOk D) = wayOk D zs) := by show _ = _; simp
      have HTT : Hid (timesN r D [zs] (List.replicate r.stops.length 0) = timeN r D zs (List.replicate r.stops.length 0)) := by show _ = _; simp [timesN]
      have HBJ : Hid (BlockedQ (insOf r D) (zs.map Int.toNat) ↔ (loadOk r zs = false ∨ wayOk D zs = false ∨ (timeN r D zs (List.replicate r.stops.length 0)).isSome = false)) := by
        show _ ↔ _
        rw [HBI.out (List.replicate r.stops.length 0)]
        exact ⟨fun h => h.elim (fun h => absurd h HTF.out) id, .inr⟩
      rw [HLL.out] at HCL
      rw [HWW.out] at HCW
      rw [HTT.out] at HCT
      generalize loadOk r zs = bl at *
      generalize wayOk D zs = bw at *
      generalize (timeN r D zs (List.replicate r.stops.length 0)).isSome = bq at *
      have h5 := HAW.out.c5
      have hpW := HAW.out.lt
      clear hWq HLL HWW HTT HX HBI
      cases bl
      · go_wp2_with fail
        rw [← HWQ.out]
        refine HCL.out.mono ?_
        rintro e3 w3 ⟨rfl, hb3⟩
        have HB3 : Hid (Below w.heap.size w w3) := HBW.out.trans (hb3.mono HBW.out.size)
        clear hb3
        go_wp2_with fail
        go_ret
        exact ⟨retB (HEQ.out true ⟨fun _ => HBJ.out.2 (.inl (by first | rfl | trivial)), fun _ => rfl⟩), HB3.out⟩
      · go_wp2_with fail
        rw [← HWQ.out]
        refine HCL.out.mono ?_
        rintro e3 w3 ⟨rfl, hb3⟩
        have HB3 : Hid (Below w.heap.size w w3) := HBW.out.trans (hb3.mono HBW.out.size)
        have HC3 := hid (HCW.out w3 hb3)
        cases bw
        · go_wp2_with fail
          refine HC3.out.mono ?_
          rintro e4 w4 ⟨rfl, hb4⟩
          have HB4 : Hid (Below w.heap.size w w4) := HB3.out.trans (hb4.mono HB3.out.size)
          clear hb4 hb3
          go_wp2_with fail
          go_ret
          exact ⟨retB (HEQ.out true ⟨fun _ => HBJ.out.2 (.inr (.inl (by first | rfl | trivial))), fun _ => rfl⟩), HB4.out⟩
        · go_wp2_with fail
          refine HC3.out.mono ?_
          rintro e4 w4 ⟨rfl, hb4⟩
          have hb34 : Below W.heap.size W w4 := hb3.trans (hb4.mono hb3.size)
          have HB4 : Hid (Below w.heap.size w w4) := HB3.out.trans (hb4.mono HB3.out.size)
          have d5 : w4.cell? ⟨p, 5, none⟩ = _ := (hb34.cell (by exact hpW)).trans h5
          have dp : p < w4.heap.size := Nat.lt_of_lt_of_le hpW hb34.size
          have HC4 := hid (fun W1 => HCT.out w4 W1 hb34)
          clear hb4 hb3 hb34 h5
          go_wp2_with (at_make; refine wpList_make_full _ rfl _ _ 40 rfl w4.heap.size 3 i0 (.int .i64 0) 1 Tryz.underlying40 hi hz0 hz1 .i64 .i64 _ _ r.stops.length rfl rfl ?m1 ?m2 ?m3 ?m4 ?m5 ?_)
          case m1 => rfl
          case m2 => rfl
          case m3 => rw [hz2]; omega
          case m4 => unfold maxLen; omega
          case m5 => exact Nat.le_refl _
          intro w5 hown5 hgr5
          have hb5 : Below w4.heap.size w4 w5 := (Below.refl _ _).grown hgr5 (Nat.le_refl _) (by simp)
          have ho5 : w5.ownsRow w4.heap.size 3 1 (.slice (some ⟨w4.heap.size, 0, none⟩) r.stops.length r.stops.length) r.stops.length (ints (List.replicate r.stops.length 0)) := by
            have e : (madeCells #[Value.int IntKind.i64 0] r.stops.length).toList = ints (List.replicate r.stops.length 0) := by rw [toList_madeCells_one]; simp [ints]
            rw [← e]; exact hown5
          have HC7 := hid (HC4.out w5 hb5 ho5)
          clear hown5 hgr5 ho5 hb5
          go_wp2_with fail
          refine HC7.out.mono ?_
          rintro e6 w6 ⟨rfl, hb6⟩
          have HB6 : Hid (Below w.heap.size w w6) := HB4.out.trans (hb6.mono HB4.out.size)
          clear hb6
          go_wp2_with fail
          go_ret
          refine ⟨retB (HEQ.out (!bq) ?_), HB6.out⟩
          rw [HBJ.out]
          cases bq <;> simp
    · go_enter Tryz.func219, Tryz.ntmps219
      go_wp2_with fail
      refine HIC.out.mono ?_
      rintro e1 w1 ⟨rfl, hb1⟩
      have HB1 := hid hb1
      clear hb1
      go_wp2_with fail
      refine (HTW.out _ HB1.out).mono ?_
      rintro e2 w2 ⟨rfl, hb2⟩
      have HB2 : Hid (Below w.heap.size w w2) := HB1.out.trans (hb2.mono HB1.out.size)
      clear hb2
      go_wp2_with fail
      go_ret
      exact ⟨retB (HEQ.out true ⟨fun _ => (HBI.out []).2 (.inl (of_decide_eq_true HT.out)), fun _ => rfl⟩), HB2.out⟩
  · have b1 : decide (ChainP r.stops.length zs) = false := by simpa using hc
    rw [b1] at HIC
    have HC := hid hc
    clear hc b1
    go_enter Tryz.func219, Tryz.ntmps219
    go_wp2_with fail
    refine HIC.out.mono ?_
    rintro e1 w1 ⟨rfl, hb1⟩
    have HB1 := hid hb1
    clear hb1
    go_wp2_with fail
    go_ret
    refine ⟨retB ?_, HB1.out⟩
    symm
    rw [decide_eq_false_iff_not]
    exact fun h => HC.out h.1
end Go.Proofs.YtebinaopncclgabGreatDoor
