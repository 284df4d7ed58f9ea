/- Walks: a leaf that holds. -/
import Derived.Test.YtebinaopncclgabGDual
import Derived.Test.YtebinaopncclgabGChain
import Derived.Test.YtebinaopncclgabCArc
namespace Go.Proofs.Ytebinaopncclgab
open Go.RowKit Go.IntWalk

def openAt (C : Nat → Nat → Int) (zs : List Int) (j i : Nat) : Prop := C (zs.getD i 0).toNat j ≠ -1
open Classical in
set_option maxRecDepth 100000 in
set_option maxHeartbeats 4000000 in
theorem opens_any (N j : Nat) (C : Nat → Nat → Int) (v vr : Value) (zs : List Int) (w : World) (hl : zs.length ≤ 20) (hr : ListR w v zs) (hq : SqR w vr N C) (hz : ∀ x ∈ zs, 0 ≤ x ∧ x < (N : Int)) (hj : j < N) :
    Calls Try.prog 72 #[vr, v, .int .i64 j] w fun e w' => e = .returned (.bool (decide (∃ i, i < zs.length ∧ openAt C zs j i))) ∧ Below w.heap.size w w' := by
  obtain ⟨ao, c, rfl, hr⟩ := hr
  obtain ⟨aq, cq, rfl, hN, hq⟩ := hq
  have HR := hid hr
  have HQ := hid hq
  have HZ := hid hz
  clear hr hq hz
  go_enter Try.func72, Try.ntmps72
  go_wp2_with fail
  go_loopw [7] (fun i wr => ∃ a : Nat, i = .int .i64 a ∧ a ≤ zs.length ∧ Hid (∀ i, i < a → ¬ openAt C zs j i) ∧ Hid (Below w.heap.size w wr)) (fun i _ => zs.length - (intOf i).toNat)
  case atStart => exact ⟨0, rfl, by omega, fun i h => absurd h (by omega), Below.refl _ _⟩
  case round =>
    obtain ⟨a, rfl, ha, HN, HB⟩ := hrel
    by_cases hlt : a < zs.length
    · obtain ⟨g, hao, hgl, hza⟩ := HR.out a hlt
      subst hao
      have hz := HZ.out _ (getD_mem hlt)
      have HO : Hid (openAt C zs j a ↔ C (zs.getD a 0).toNat j ≠ -1) := Iff.rfl
      generalize zs.getD a 0 = x at *
      obtain ⟨m, rfl⟩ : ∃ m : Nat, x = m := ⟨x.toNat, by omega⟩
      obtain ⟨gq, gi, ci, hgq, hgql, hgc, hgil, hrow⟩ := HQ.out m (by omega)
      subst hgq
      have y0 : wr.cell? ⟨g, a, none⟩ = _ := (HB.out.cell (by exact hgl)).trans hza
      have y2 : wr.cell? ⟨gq, m, none⟩ = _ := (HB.out.cell (by exact hgql)).trans hgc
      have y3 : wr.cell? ⟨gi, j, none⟩ = _ := (HB.out.cell (by exact hgil)).trans (hrow j hj)
      have l1 : g < wr.heap.size := Nat.lt_of_lt_of_le hgl HB.out.size
      have l2 : gq < wr.heap.size := Nat.lt_of_lt_of_le hgql HB.out.size
      have l3 : gi < wr.heap.size := Nat.lt_of_lt_of_le hgil HB.out.size
      have ia : (0 : Int) ≤ (a : Int) := by omega
      have ja : (a : Int) < (zs.length : Int) := by omega
      have im : (0 : Int) ≤ (m : Int) := by omega
      have jm : (m : Int) < (N : Int) := by omega
      have ij : (0 : Int) ≤ (j : Int) := by omega
      have jj : (j : Int) < (N : Int) := by omega
      rw [Int.toNat_natCast] at HO
      obtain ⟨d, hd⟩ : ∃ d, d = C m j := ⟨_, rfl⟩
      rw [← hd] at y3 HO
      clear hd hza hgc hrow
      by_cases hc1 : d = -1
      · have c1 : (d != (-1 : Int)) = false := by simp [hc1]
        have HG : Hid (¬ openAt C zs j a) := fun h => HO.out.1 h hc1
        clear hc1 HO
        go_wp2_with go_in
        refine ⟨⟨a + 1, by go_num, by omega, fun i hi => ?_, by first | exact HB.out | exact HB.out.drew | exact below_dn HB.out _⟩, by simp [intOf]; omega⟩
        by_cases hia : i = a
        · rw [hia]; exact HG.out
        · exact HN.out i (by omega)
      · have c1 : (d != (-1 : Int)) = true := by simpa using hc1
        have HG : Hid (openAt C zs j a) := HO.out.2 hc1
        clear hc1 HO
        go_wp2_with go_in
        go_ret
        refine ⟨retB ?_, by first | exact HB.out | exact HB.out.drew | exact below_dn HB.out _⟩
        symm
        rw [decide_eq_true_eq]; exact ⟨a, hlt, HG.out⟩
    · go_wp2_with go_in
      go_ret
      refine ⟨retB ?_, HB.out⟩
      symm
      rw [decide_eq_false_iff_not]
      rintro ⟨i, h1, h2⟩
      exact HN.out i (by omega) h2
theorem open_any {C : Nat → Nat → Int} {zs : List Int} {j : Nat} : (∃ i, i < zs.length ∧ openAt C zs j i) ↔ (zs.any fun r => decide (C r.toNat j ≠ -1)) = true := by
  rw [List.any_eq_true]
  constructor
  · rintro ⟨i, h1, h2⟩; exact ⟨_, getD_mem h1, by simpa [openAt] using h2⟩
  · rintro ⟨x, hx, h⟩
    obtain ⟨i, hi, rfl⟩ := List.mem_iff_getElem.1 hx
    refine ⟨i, hi, ?_⟩
    unfold openAt
    rw [List.getD_eq_getElem?_getD, List.getElem?_eq_getElem hi]; simpa using h
def hitsTo (C : Nat → Nat → Int) (zs : List Int) (k : Nat) : Nat := ((List.range k).filter fun j => zs.any fun r => decide (C r.toNat j ≠ -1)).length
theorem hitsTo_succ (C : Nat → Nat → Int) (zs : List Int) (k : Nat) : hitsTo C zs (k + 1) = hitsTo C zs k + (if (zs.any fun r => decide (C r.toNat k ≠ -1)) = true then 1 else 0) := by
  unfold hitsTo
  rw [List.range_succ, List.filter_append, List.length_append]
  congr 1
  split
  · rename_i h; rw [List.filter_cons_of_pos (p := fun j => zs.any fun r => decide (C r.toNat j ≠ -1)) h]; rfl
  · rename_i h; rw [List.filter_cons_of_neg (p := fun j => zs.any fun r => decide (C r.toNat j ≠ -1)) h]; rfl
theorem hitsTo_le (C : Nat → Nat → Int) (zs : List Int) (k : Nat) : hitsTo C zs k ≤ k := by
  unfold hitsTo
  have := List.length_filter_le (fun j => zs.any fun r => decide (C r.toNat j ≠ -1)) (List.range k)
  simpa using this
def rowOk (N : Nat) (zs : List Int) (i : Nat) : Prop := 0 ≤ zs.getD i 0 ∧ zs.getD i 0 < (N : Int) ∧ (0 < i → zs.getD (i - 1) 0 < zs.getD i 0)
theorem rows_iff {N : Nat} {zs : List Int} : ((∀ x ∈ zs, 0 ≤ x ∧ x < (N : Int)) ∧ risingZ zs) ↔ ∀ i, i < zs.length → rowOk N zs i := by
  constructor
  · rintro ⟨h1, h2⟩ i hi
    refine ⟨(h1 _ (getD_mem hi)).1, (h1 _ (getD_mem hi)).2, fun h0 => ?_⟩
    obtain ⟨k, rfl⟩ : ∃ k, i = k + 1 := ⟨i - 1, by omega⟩
    exact h2 k hi
  · intro h
    refine ⟨fun x hx => ?_, fun i hi => ?_⟩
    · obtain ⟨i, hi, rfl⟩ := List.mem_iff_getElem.1 hx
      have := h i hi
      unfold rowOk at this
      rw [List.getD_eq_getElem?_getD, List.getElem?_eq_getElem hi, Option.getD_some] at this
      exact ⟨this.1, this.2.1⟩
    · exact (h (i + 1) hi).2.2 (by omega)

open Classical in
set_option maxRecDepth 100000 in
set_option maxHeartbeats 4000000 in
theorem hallHolds_any (p : Nat) (r : Rd) (T : Nat → Nat → Int) (v vf : Value) (zs : List Int) (w : World) (hok : RdOk r) (hl : zs.length ≤ 20) (hr : ListR w v zs)
    (ha : ArcsAt w p 8 r T vf) (hq : SqR w vf (r.stops.length + 1) (siteD r)) :
    Calls Try.prog 64 #[.pointer (some ⟨p, 0, none⟩), v] w fun e w' => e = .returned (.bool (decide (HallZ (insOf r (siteD r)) T zs))) ∧ Below w.heap.size w w' := by
  have hns := hok.nstops
  have hvv : 1 ≤ r.vans ∧ r.vans ≤ 3 := by have := headOk_iff.1 hok.head; omega
  obtain ⟨vn, hvn⟩ : ∃ vn : Nat, r.vans = vn := ⟨r.vans.toNat, by omega⟩
  have hvt : r.vans.toNat = vn := by omega
  obtain ⟨N, hN⟩ : ∃ N, N = r.stops.length + vn := ⟨_, rfl⟩
  have hN10 : N ≤ 10 := by omega
  have HSQ := hid (square_own p 8 r T (siteD r) vf r.stops.length vn N w hns hvn (by omega) (by omega) hN ha hq)
  have HHZ : Hid (HallZ (insOf r (siteD r)) T zs ↔ (∀ i, i < zs.length → rowOk N zs i) ∧ hitsTo (fun i j => cellS r.stops.length T (siteD r) (lineN r.stops.length i) (lineN r.stops.length j)) zs N < zs.length) := by
    have e : (insOf r (siteD r)).n + (insOf r (siteD r)).vans = N := by show r.stops.length + r.vans.toNat = N; omega
    show _ ↔ _
    rw [← rows_iff]
    constructor
    · intro h
      have h1 := h.rows
      have h3 := h.few
      rw [e] at h1 h3
      exact ⟨⟨h1, h.rising⟩, h3⟩
    · rintro ⟨⟨h1, h2⟩, h3⟩
      exact ⟨by rw [e]; exact h1, h2, by rw [e]; exact h3⟩
  have hp := ha.lt
  have HR := hid hr
  obtain ⟨ao, c, rfl, _⟩ := hr
  obtain ⟨CC, hCC⟩ : ∃ CC : Nat → Nat → Int, CC = fun i j => cellS r.stops.length T (siteD r) (lineN r.stops.length i) (lineN r.stops.length j) := ⟨_, rfl⟩
  rw [← hCC] at HSQ HHZ
  clear hCC ha hq hok hN hvn hvt hvv
  go_enter Try.func64, Try.ntmps64
  go_wp2_with fail
  refine HSQ.out.mono ?_
  rintro e1 w1 ⟨v1, rfl, hg1, hb1⟩
  have HQ1 := hid (hg1.sq (by omega))
  obtain ⟨g1, G1, rfl, _⟩ := hg1
  have HB1 := hid hb1
  have HR1 := hid (HR.out.below hb1)
  clear hb1 HSQ HR
  go_wp2_with fail
  go_loopw [6] (fun i wr => ∃ a : Nat, i = .int .i64 a ∧ a ≤ zs.length ∧ Hid (∀ i, i < a → rowOk N zs i) ∧ Hid (Below w1.heap.size w1 wr)) (fun i _ => zs.length - (intOf i).toNat)
  case atStart => exact ⟨0, rfl, by omega, fun i h => absurd h (by omega), by first | exact Below.refl _ _ | exact (Below.refl _ _).drew⟩
  case round =>
    obtain ⟨a, rfl, ha, HN, HB⟩ := hrel
    have HBW : Hid (Below w.heap.size w wr) := HB1.out.trans (HB.out.mono HB1.out.size)
    by_cases hlt : a < zs.length
    · obtain ⟨ao', co', hv, hr3⟩ := HR1.out
      cases hv
      obtain ⟨g, hao, hgl, hza⟩ := hr3 a hlt
      subst hao
      have y0 : wr.cell? ⟨g, a, none⟩ = _ := (HB.out.cell (by exact hgl)).trans hza
      have l1 : g < wr.heap.size := Nat.lt_of_lt_of_le hgl HB.out.size
      have ia : (0 : Int) ≤ (a : Int) := by omega
      have ja : (a : Int) < (zs.length : Int) := by omega
      have HNO : Hid (¬ rowOk N zs a → ¬ HallZ (insOf r (siteD r)) T zs) := fun h h2 => h ((HHZ.out.1 h2).1 a hlt)
      have HRK : Hid (rowOk N zs a ↔ (0 ≤ zs.getD a 0 ∧ zs.getD a 0 < (N : Int) ∧ (0 < a → zs.getD (a - 1) 0 < zs.getD a 0))) := Iff.rfl
      have hrel2 : (a = 0) ∨ ∃ a', a = a' + 1 ∧ wr.cell? ⟨g, a', none⟩ = some (.int .i64 (zs.getD (a - 1) 0)) := by
        by_cases h0 : a = 0
        · exact .inl h0
        · obtain ⟨g', hg', _, hzb⟩ := hr3 (a - 1) (by omega)
          cases hg'
          exact .inr ⟨a - 1, by omega, (HB.out.cell (by exact hgl)).trans hzb⟩
      generalize zs.getD a 0 = x at *
      generalize zs.getD (a - 1) 0 = y at *
      clear hr3 hza
      by_cases e1 : 0 ≤ x
      · have b1 : decide (x < 0) = false := by simp; omega
        by_cases e2 : x < (N : Int)
        · have b2 : decide ((N : Int) ≤ x) = false := by simp; omega
          rcases hrel2 with h0 | ⟨a', ha', y1⟩
          · have b3 : decide ((0 : Int) < (a : Int)) = false := by simp; omega
            have b3' : decide (0 < a) = false := by simp; omega
            have HG : Hid (rowOk N zs a) := HRK.out.2 ⟨e1, e2, fun h => by omega⟩
            clear h0 HRK HNO e1 e2
            go_wp2_with go_in
            go_quiet (fail)
            go_wp2_with go_in
            refine ⟨⟨a + 1, by go_num, by omega, fun i hi => ?_, below_dn HB.out _⟩, by simp [intOf]; omega⟩
            by_cases hia : i = a
            · rw [hia]; exact HG.out
            · exact HN.out i (by omega)
          · subst ha'
            have b3 : decide ((0 : Int) < ((a' + 1 : Nat) : Int)) = true := decide_eq_true (by omega)
            have wz : IntKind.i64.wrap (((a' + 1 : Nat) : Int) - 1) = (a' : Int) := by rw [i64_fits _ (by omega)]; omega
            have wz2 : IntKind.i64.wrap ((a' : Int) + 1 - 1) = (a' : Int) := by rw [i64_fits _ (by omega)]; omega
            have wz3 : IntKind.i64.wrap (a' : Int) = (a' : Int) := i64_fits _ (by omega)
            have ia' : (0 : Int) ≤ (a' : Int) := by omega
            have ja' : (a' : Int) < (zs.length : Int) := by omega
            by_cases e3 : x ≤ y
            · have b4 : decide (x ≤ y) = true := by simpa using e3
              have HG : Hid (¬ HallZ (insOf r (siteD r)) T zs) := HNO.out (fun h => by have := (HRK.out.1 h).2.2 (by omega); omega)
              clear HRK HNO e1 e2 e3
              go_wp2_with go_in
              go_quiet (fail)
              go_wp2_with go_in
              go_ret
              refine ⟨retB ?_, by first | exact below_dn HBW.out _ | exact HBW.out | exact HBW.out.drew⟩
              symm
              rw [decide_eq_false_iff_not]; exact HG.out
            · have b4 : decide (x ≤ y) = false := by simpa using e3
              have HG : Hid (rowOk N zs (a' + 1)) := HRK.out.2 ⟨e1, e2, fun _ => by omega⟩
              clear HRK HNO e1 e2 e3
              go_wp2_with go_in
              go_quiet (fail)
              go_wp2_with go_in
              refine ⟨⟨(a' + 1) + 1, by go_num, by omega, fun i hi => ?_, below_dn HB.out _⟩, by simp [intOf]; omega⟩
              by_cases hia : i = (a' + 1)
              · rw [hia]; exact HG.out
              · exact HN.out i (by omega)
        · have b2 : decide ((N : Int) ≤ x) = true := by simp; omega
          have HG : Hid (¬ HallZ (insOf r (siteD r)) T zs) := HNO.out (fun h => by have := (HRK.out.1 h).2.1; omega)
          clear HRK HNO e1 e2 hrel2
          go_wp2_with go_in
          go_ret
          refine ⟨retB ?_, by first | exact below_dn HBW.out _ | exact HBW.out | exact HBW.out.drew⟩
          symm
          rw [decide_eq_false_iff_not]; exact HG.out
      · have b1 : decide (x < 0) = true := by simp; omega
        have HG : Hid (¬ HallZ (insOf r (siteD r)) T zs) := HNO.out (fun h => by have := (HRK.out.1 h).1; omega)
        clear HRK HNO e1 hrel2
        go_wp2_with go_in
        go_ret
        refine ⟨retB ?_, by first | exact below_dn HBW.out _ | exact HBW.out | exact HBW.out.drew⟩
        symm
        rw [decide_eq_false_iff_not]; exact HG.out
    · have HAL : Hid (∀ i, i < zs.length → rowOk N zs i) := fun i hi => HN.out i (by omega)
      have HZ : Hid (∀ x ∈ zs, 0 ≤ x ∧ x < (N : Int)) := (rows_iff.2 HAL.out).1
      have HEQ : Hid (HallZ (insOf r (siteD r)) T zs ↔ hitsTo CC zs N < zs.length) := ⟨fun h => (HHZ.out.1 h).2, fun h => HHZ.out.2 ⟨HAL.out, h⟩⟩
      have HOP : Hid (∀ W j, j < N → Below w1.heap.size w1 W → Calls Try.prog 72 #[.slice (some ⟨g1, 0, none⟩) N N, .slice ao zs.length c, .int .i64 j] W fun e w' => e = .returned (.bool (decide (∃ i, i < zs.length ∧ openAt CC zs j i))) ∧ Below W.heap.size W w') := fun W j hj hW => opens_any N j CC _ _ zs W hl (HR1.out.below hW) (HQ1.out.below hW) HZ.out hj
      clear HN HHZ HAL HZ HR1 HQ1
      go_wp2_with fail
      go_loopw [7, 8] (fun cv i wr => ∃ b : Nat, i = .int .i64 b ∧ b ≤ N ∧ cv = .int .i64 (hitsTo CC zs b) ∧ Hid (Below w1.heap.size w1 wr)) (fun _ i _ => N - (intOf i).toNat)
      case atStart => exact ⟨0, rfl, by omega, rfl, by first | exact HB.out | exact HB.out.drew⟩
      case round =>
        obtain ⟨b, rfl, hbN, rfl, HB2⟩ := hrel
        have HBW2 : Hid (Below w.heap.size w wr) := HB1.out.trans (HB2.out.mono HB1.out.size)
        have hh := hitsTo_le CC zs b
        by_cases hlb : b < N
        · have HC := hid (HOP.out wr b hlb HB2.out)
          have HS := hid (hitsTo_succ CC zs b)
          by_cases ho : ∃ i, i < zs.length ∧ openAt CC zs b i
          · rw [if_pos (open_any.1 ho)] at HS
            rw [decide_eq_true ho] at HC
            clear ho
            generalize hitsTo CC zs b = h at *
            go_wp2_with fail
            refine HC.out.mono ?_
            rintro e3 w3 ⟨rfl, hb3⟩
            have HB3 : Hid (Below w1.heap.size w1 w3) := HB2.out.trans (hb3.mono HB2.out.size)
            clear hb3
            go_wp2_with fail
            exact ⟨⟨b + 1, by go_num, by omega, by rw [HS.out]; go_num, HB3⟩, by simp [intOf]; omega⟩
          · rw [if_neg (fun h => ho (open_any.2 h))] at HS
            rw [decide_eq_false ho] at HC
            clear ho
            generalize hitsTo CC zs b = h at *
            go_wp2_with fail
            refine HC.out.mono ?_
            rintro e3 w3 ⟨rfl, hb3⟩
            have HB3 : Hid (Below w1.heap.size w1 w3) := HB2.out.trans (hb3.mono HB2.out.size)
            clear hb3
            go_wp2_with fail
            exact ⟨⟨b + 1, by go_num, by omega, by rw [HS.out]; rfl, HB3⟩, by simp [intOf]; omega⟩
        · obtain rfl : b = N := by omega
          go_wp2_with fail
          go_ret
          refine ⟨retB ?_, HBW2.out⟩
          rw [Bool.eq_iff_iff, decide_eq_true_eq, decide_eq_true_eq, HEQ.out]
          first | done | omega
end Go.Proofs.Ytebinaopncclgab
namespace Go.Proofs.Ytebinaopncclgab
open Go.RowKit Go.IntWalk

def forcedAt (n : Nat) (T : Nat → Nat → Int) (zs : List Int) (i : Nat) : Prop := saidZ n T (zs.getD i 0) (zs.getD (i + 1) 0) = 1
theorem chainZ_iff {r : Rd} {T : Nat → Nat → Int} {zs : List Int} (hT : ∀ a, T a a ≠ 1) : ChainZ (insOf r (siteD r)) T zs ↔ (∀ i, i + 1 < zs.length → forcedAt r.stops.length T zs i) ∧ ChainP r.stops.length zs ∧ BlockedQ (insOf r (siteD r)) (zs.map Int.toNat) := by
  constructor
  · intro h
    refine ⟨fun i hi => ?_, ⟨h.ne, h.sites, h.ends⟩, h.blocked⟩
    have h1 := h.sites _ (getD_mem (show i < zs.length by omega))
    have h2 := h.sites _ (getD_mem hi)
    have h3 := h.forced i hi
    have h4 : (insOf r (siteD r)).n = r.stops.length := rfl
    unfold forcedAt saidZ
    rw [if_pos]
    · exact h3
    · refine ⟨⟨h1.1, by omega⟩, ⟨h2.1, by omega⟩, fun e => ?_⟩
      rw [e] at h3
      exact hT _ h3
  · rintro ⟨h1, h2, h3⟩
    refine ⟨h2.ne, h2.sites, h2.ends, fun i hi => ?_, h3⟩
    have := h1 i hi
    unfold forcedAt saidZ at this
    split at this
    · exact this
    · omega

open Classical in
set_option maxRecDepth 100000 in
set_option maxHeartbeats 4000000 in
theorem chainHolds_any (p : Nat) (r : Rd) (T : Nat → Nat → Int) (v vs vf : Value) (af : Option Addr) (cf : Nat) (zs : List Int) (w : World) (hok : RdOk r) (hl : zs.length ≤ 20) (hr : ListR w v zs) (hT : ∀ a, T a a ≠ 1)
    (ha : ArcsAt w p 8 r T (.slice af (r.stops.length + 1 : Nat) cf)) (hA : AreaAt w p r (siteD r) vs vf) :
    Calls Try.prog 65 #[.pointer (some ⟨p, 0, none⟩), v] w fun e w' => e = .returned (.bool (decide (ChainZ (insOf r (siteD r)) T zs))) ∧ Below w.heap.size w w' := by
  have hns := hok.nstops
  have HBL : Hid (∀ W, Below w.heap.size w W → Calls Try.prog 73 #[.pointer (some ⟨p, 0, none⟩), v] W fun e w' => e = .returned (.bool (decide (ChainP r.stops.length zs ∧ BlockedQ (insOf r (siteD r)) (zs.map Int.toNat)))) ∧ Below W.heap.size W w') := fun W hW => blocked_any p r (siteD r) v vs vf zs W hl (hr.below hW) hok (hA.below hW) (fun a b h1 h2 => site_range hok a b h1 h2)
  have HSD : Hid (∀ W x y, Below w.heap.size w W → Calls Try.prog 61 #[.pointer (some ⟨p, 8, none⟩), .int .i64 x, .int .i64 y] W fun e w' => e = .returned (.int .i64 (saidZ r.stops.length T x y)) ∧ Below W.heap.size W w') := fun W x y hW => said_any p 8 r T af cf r.stops.length x y W hns (ha.below hW)
  have HCI := hid (chainZ_iff (r := r) (zs := zs) hT)
  have hp := hA.lt
  have HR := hid hr
  obtain ⟨ao, c, rfl, _⟩ := hr
  clear ha hA hok
  go_enter Try.func65, Try.ntmps65
  go_wp2_with fail
  go_loopw [5] (fun i wr => ∃ a : Nat, i = .int .i64 (a + 1 : Nat) ∧ (a = 0 ∨ a + 1 ≤ zs.length) ∧ Hid (∀ j, j < a → forcedAt r.stops.length T zs j) ∧ Hid (Below w.heap.size w wr)) (fun i _ => zs.length - (intOf i).toNat)
  case atStart => exact ⟨0, rfl, by omega, fun i h => absurd h (by omega), Below.refl _ _⟩
  case round =>
    obtain ⟨a, rfl, ha, HN, HB⟩ := hrel
    by_cases hlt : a + 1 < zs.length
    · obtain ⟨ao', c', hv, hrr⟩ := HR.out
      cases hv
      obtain ⟨g, hao, hgl, hca⟩ := hrr a (by omega)
      obtain ⟨g', hao', _, hcb⟩ := hrr (a + 1) hlt
      subst hao
      cases hao'
      have x0 : wr.cell? ⟨g, a, none⟩ = _ := (HB.out.cell (by exact hgl)).trans hca
      have x1 : wr.cell? ⟨g, a + 1, none⟩ = _ := (HB.out.cell (by exact hgl)).trans hcb
      have xl : g < wr.heap.size := Nat.lt_of_lt_of_le hgl HB.out.size
      have HF : Hid (forcedAt r.stops.length T zs a ↔ saidZ r.stops.length T (zs.getD a 0) (zs.getD (a + 1) 0) = 1) := Iff.rfl
      generalize zs.getD a 0 = x at *
      generalize zs.getD (a + 1) 0 = y at *
      have HCW : Hid (∀ W, Below wr.heap.size wr W → Calls Try.prog 61 #[.pointer (some ⟨p, 8, none⟩), .int .i64 x, .int .i64 y] W fun e w' => e = .returned (.int .i64 (saidZ r.stops.length T x y)) ∧ w'.cell? ⟨g, a, none⟩ = some (.int .i64 x) ∧ w'.cell? ⟨g, a + 1, none⟩ = some (.int .i64 y) ∧ Hid (Below w.heap.size w w')) := fun W hW => by
        refine (HSD.out W x y (HB.out.trans (hW.mono HB.out.size))).mono ?_
        rintro e w' ⟨h1, h2⟩
        have h3 : Below wr.heap.size wr w' := hW.trans (h2.mono hW.size)
        exact ⟨h1, (h3.cell (by exact xl)).trans x0, (h3.cell (by exact xl)).trans x1, HB.out.trans (h3.mono HB.out.size)⟩
      have ia : (0 : Int) ≤ (a : Int) := by omega
      have ja : (a : Int) < (zs.length : Int) := by omega
      have jb : ((a + 1 : Nat) : Int) < (zs.length : Int) := by omega
      have wz : IntKind.i64.wrap (((a + 1 : Nat) : Int) - 1) = (a : Int) := by rw [i64_fits _ (by omega)]; omega
      have ib : (0 : Int) ≤ (a : Int) + 1 := by omega
      have jb2 : (a : Int) + 1 < (zs.length : Int) := by omega
      have wz2 : IntKind.i64.wrap ((a : Int) + 1 - 1) = (a : Int) := by rw [i64_fits _ (by omega)]; omega
      have tn : ((a : Int) + 1).toNat = a + 1 := by omega
      have wz3 : IntKind.i64.wrap (a : Int) = (a : Int) := i64_fits _ (by omega)
      generalize saidZ r.stops.length T x y = sd at *
      clear hca hcb hrr
      by_cases hs : sd = 1
      · have b1 : (sd != 1) = false := by simp [hs]
        have HFA : Hid (forcedAt r.stops.length T zs a) := HF.out.2 hs
        clear hs HF HR HBL HSD HCI
        go_wp2_with fail
        go_region_held3 (fun w' => w'.cell? ⟨g, a, none⟩ = some (.int .i64 x) ∧ w'.cell? ⟨g, a + 1, none⟩ = some (.int .i64 y)) (go_keep) (first | (go_at_call 61; refine (HCW.out _ (by first | exact Below.refl _ _ | exact (Below.refl _ _).drew)).mono ?_; rintro e3 w3 ⟨rfl, z0, z1, HB3⟩))
        go_wp2
        refine ⟨⟨a + 1, by go_num, by omega, fun j hj => ?_, HB3⟩, by simp [intOf]; omega⟩
        by_cases hja : j = a
        · rw [hja]; exact HFA.out
        · exact HN.out j (by omega)
      · have b1 : (sd != 1) = true := by simpa using hs
        have HFA : Hid (¬ ChainZ (insOf r (siteD r)) T zs) := fun h => hs (HF.out.1 ((HCI.out.1 h).1 a hlt))
        clear hs HF HR HBL HSD HCI HN hT
        go_wp2_with fail
        go_region_held3 (fun w' => w'.cell? ⟨g, a, none⟩ = some (.int .i64 x) ∧ w'.cell? ⟨g, a + 1, none⟩ = some (.int .i64 y)) (go_keep) (first | (go_at_call 61; refine (HCW.out _ (by first | exact Below.refl _ _ | exact (Below.refl _ _).drew)).mono ?_; rintro e3 w3 ⟨rfl, z0, z1, HB3⟩))
        go_wp2
        go_ret
        refine ⟨retB ?_, by first | exact HB3.out | exact HB3.out.drew | exact below_dn HB3.out _⟩
        symm
        rw [decide_eq_false_iff_not]; exact HFA.out
    · have HAF : Hid (∀ i, i + 1 < zs.length → forcedAt r.stops.length T zs i) := fun i hi => HN.out i (by omega)
      have HC := hid (HBL.out wr HB.out)
      go_wp2_with fail
      refine HC.out.mono ?_
      rintro e1 w1 ⟨rfl, hb1⟩
      have HB1 : Hid (Below w.heap.size w w1) := HB.out.trans (hb1.mono HB.out.size)
      clear hb1
      go_wp2_with fail
      go_ret
      refine ⟨retB ?_, HB1.out⟩
      rw [Bool.eq_iff_iff, ← Bool.decide_and, decide_eq_true_eq, decide_eq_true_eq, HCI.out]
      exact ⟨fun h => ⟨HAF.out, h⟩, fun h => h.2⟩
end Go.Proofs.Ytebinaopncclgab
namespace Go.Proofs.Ytebinaopncclgab
open Go.RowKit Go.IntWalk

open Classical in
set_option maxRecDepth 100000 in
set_option maxHeartbeats 4000000 in
theorem leafHolds_any (p : Nat) (r : Rd) (T : Nat → Nat → Int) (v vs vf vf2 : Value) (nd : NodeT) (cl : Option Int) (w : World) (hok : RdOk r) (hl : nd.2.length ≤ 20) (hb : ∀ z ∈ nd.2, -100000000 ≤ z ∧ z ≤ 100000000) (hr : ListR w v nd.2) (hT : ∀ a, T a a ≠ 1)
    (hA : AreaAt w p r (siteD r) vs vf) (ha : ArcsAt w p 8 r T vf2) (hq : SqR w vf2 (r.stops.length + 1) (siteD r)) (h75 : w.cell? ⟨p, 75, none⟩ = some (.bool cl.isSome)) (h76 : w.cell? ⟨p, 76, none⟩ = some (.int .i64 (cl.getD 0))) :
    Calls Try.prog 48 #[.pointer (some ⟨p, 0, none⟩), .agg #[.int .i64 nd.1, v]] w fun e w' => e = .returned (.bool (decide (HoldZ (insOf r (siteD r)) cl T nd))) ∧ Below w.heap.size w w' := by
  obtain ⟨k, zs⟩ := nd
  dsimp only at hl hb hr ⊢
  have hp := hA.lt
  have HD : Hid (∀ W, Below w.heap.size w W → Calls Try.prog 63 #[.pointer (some ⟨p, 0, none⟩), v] W fun e w' => e = .returned (.bool (decide (∃ c, cl = some c ∧ DualsZ (insOf r (siteD r)) T c zs))) ∧ Below W.heap.size W w') := fun W hW => dualsHold_any p r T v vf2 zs cl W hok hl (hr.below hW) hb (ha.below hW) (hq.below hW) ((hW.cell (by exact hp)).trans h75) ((hW.cell (by exact hp)).trans h76)
  have HH : Hid (∀ W, Below w.heap.size w W → Calls Try.prog 64 #[.pointer (some ⟨p, 0, none⟩), v] W fun e w' => e = .returned (.bool (decide (HallZ (insOf r (siteD r)) T zs))) ∧ Below W.heap.size W w') := fun W hW => hallHolds_any p r T v vf2 zs W hok hl (hr.below hW) (ha.below hW) (hq.below hW)
  have HC : Hid (∀ W, Below w.heap.size w W → Calls Try.prog 65 #[.pointer (some ⟨p, 0, none⟩), v] W fun e w' => e = .returned (.bool (decide (ChainZ (insOf r (siteD r)) T zs))) ∧ Below W.heap.size W w') := fun W hW => by
    obtain ⟨af, cf, rfl, _⟩ := hq
    exact chainHolds_any p r T v vs vf af cf zs W hok hl (hr.below hW) hT (ha.below hW) (hA.below hW)
  obtain ⟨ao, c, rfl, _⟩ := hr
  clear hA ha hq h75 h76 hok hT hb
  by_cases h2 : k = 2
  · subst h2
    have HE : Hid (HoldZ (insOf r (siteD r)) cl T (2, zs) ↔ ∃ c, cl = some c ∧ DualsZ (insOf r (siteD r)) T c zs) := by show _ ↔ _; unfold HoldZ; simp
    go_enter Try.func48, Try.ntmps48
    go_wp2_with fail
    refine (HD.out _ (below1 w _)).mono ?_
    rintro e1 w1 ⟨rfl, hb1⟩
    have HB1 : Hid (Below w.heap.size w w1) := (below1 w _).trans (hb1.mono (by simp))
    clear hb1
    generalize hB : decide (∃ c, cl = some c ∧ DualsZ (insOf r (siteD r)) T c zs) = bb at *
    have HBB := hid hB
    clear hB
    go_wp2_with fail
    go_ret
    exact ⟨retB (by rw [← HBB.out]; exact decide_eq_decide.2 HE.out.symm), HB1.out⟩
  have e2 : (k == 2) = false := by simpa using h2
  by_cases h3 : k = 3
  · subst h3
    have HE : Hid (HoldZ (insOf r (siteD r)) cl T (3, zs) ↔ HallZ (insOf r (siteD r)) T zs) := by show _ ↔ _; unfold HoldZ; simp
    go_enter Try.func48, Try.ntmps48
    go_wp2_with fail
    refine (HH.out _ (below1 w _)).mono ?_
    rintro e1 w1 ⟨rfl, hb1⟩
    have HB1 : Hid (Below w.heap.size w w1) := (below1 w _).trans (hb1.mono (by simp))
    clear hb1
    generalize hB : decide (HallZ (insOf r (siteD r)) T zs) = bb at *
    have HBB := hid hB
    clear hB
    go_wp2_with fail
    go_ret
    exact ⟨retB (by rw [← HBB.out]; exact decide_eq_decide.2 HE.out.symm), HB1.out⟩
  have e3 : (k == 3) = false := by simpa using h3
  by_cases h4 : k = 4
  · subst h4
    have HE : Hid (HoldZ (insOf r (siteD r)) cl T (4, zs) ↔ ChainZ (insOf r (siteD r)) T zs) := by show _ ↔ _; unfold HoldZ; simp
    go_enter Try.func48, Try.ntmps48
    go_wp2_with fail
    refine (HC.out _ (below1 w _)).mono ?_
    rintro e1 w1 ⟨rfl, hb1⟩
    have HB1 : Hid (Below w.heap.size w w1) := (below1 w _).trans (hb1.mono (by simp))
    clear hb1
    generalize hB : decide (ChainZ (insOf r (siteD r)) T zs) = bb at *
    have HBB := hid hB
    clear hB
    go_wp2_with fail
    go_ret
    exact ⟨retB (by rw [← HBB.out]; exact decide_eq_decide.2 HE.out.symm), HB1.out⟩
  have e4 : (k == 4) = false := by simpa using h4
  have HE : Hid (¬ HoldZ (insOf r (siteD r)) cl T (k, zs)) := by
    unfold HoldZ
    rintro (h | h | h)
    · exact h2 h.1
    · exact h3 h.1
    · exact h4 h.1
  clear h2 h3 h4
  go_enter Try.func48, Try.ntmps48
  go_wp2_with fail
  go_ret
  exact ⟨retB (by symm; rw [decide_eq_false_iff_not]; exact HE.out), below1 _ _⟩
end Go.Proofs.Ytebinaopncclgab
