/- Walks: no plan that can be driven is below the least sum of its cells. -/
import Derived.Test.YtebinaopncclgaaUCall
namespace Go.Proofs.Ytebinaopncclgaa
open Go.RowKit Go.IntWalk

theorem legs_len (l : List UInt8) : (legsS l).length ≤ 2 * l.length + 2 := by
  unfold legsS
  split
  · simp
  · rw [List.length_append, lgGo_length]; simp
/- what the plan is, of which a driver tells the cost -/
theorem drv_plan {r : Rd} (hok : RdOk r) {l : List UInt8} {C : Int} {S : List Int} (h : drvS r (siteD r) l = some (C, S)) :
    l.length ≤ 14 ∧ PlanQ (insOf r (siteD r)) (routesN l) ∧ C = costQ (insOf r (siteD r)) (routesN l) ∧ legsS l = arcsB (arcsQ (routesN l)) ∧ (arcsQ (routesN l)).length ≤ 15 := by
  have hj := (drv_judge hok).1 C S h
  have hns := hok.nstops
  obtain ⟨hp, hq⟩ := (judge_iff (D := siteD r) hok).1 ⟨C, S, hj⟩
  have hf : textFaultS r.stops.length l = 0 := by
    unfold drvS at h
    split at h
    · rename_i hh; exact hh.1
    · cases h
  have hlen := (fine_size hf).1
  have hl := legs_arcs hp
  refine ⟨by omega, hq, judge_cost hj, hl, ?_⟩
  have h1 := arcsB_length (arcsQ (routesN l))
  rw [← hl] at h1
  have := legs_len l
  omega
/- what an assignment of cells along a plan tells -/
theorem assign_plan {r : Rd} {R : List (List Nat)} {T : Nat → Nat → Int} {w w' : World} {e : Ending} (h : PlanQ (insOf r (siteD r)) R) (ha : Along r.stops.length T R)
    (hb : BestLeft w (r.stops.length + r.vans.toNat) (fun i j => cellS r.stops.length T (siteD r) (lineN r.stops.length i) (lineN r.stops.length j)) e w') :
    Below w.heap.size w w' ∧ ∃ (g1 g2 g3 : Nat) (cost : Int), e = .returned (.tuple #[.agg #[.bool true, .int .i64 cost, .slice (some ⟨g1, 0, none⟩) (r.stops.length + r.vans.toNat : Nat) (r.stops.length + r.vans.toNat), .slice (some ⟨g2, 0, none⟩) (r.stops.length + r.vans.toNat : Nat) (r.stops.length + r.vans.toNat), .slice (some ⟨g3, 0, none⟩) (r.stops.length + r.vans.toNat : Nat) (r.stops.length + r.vans.toNat), .slice none 0 0], .int .i64 0]) ∧ cost ≤ costQ (insOf r (siteD r)) R ∧ (FullQ r.stops.length T R → cost = costQ (insOf r (siteD r)) R) := by
  obtain ⟨hbl, ⟨g1, g2, g3, col, u, v, cost, he, _, _, _, _, _, _, _, _, _, ht⟩ | ⟨x, S, U, _, _, hs⟩⟩ := hb
  · exact ⟨hbl, g1, g2, g3, cost, he, plan_tight h ha ht, fun hf => full_least h hf ht⟩
  · exact (plan_short h ha hs).elim

set_option maxRecDepth 100000 in
set_option maxHeartbeats 8000000 in
theorem under_walk (X : Nat → Int) (S T : Nat → Nat → Int) (aS aR : Option Addr) (n m cn cm : Nat) (s : ByteArray) (on off : Int) (w : World) (hX : ∀ i, i < 5 → -9223372036854775808 ≤ X i ∧ X i ≤ 9223372036854775807) (hn : n ≤ 9223372036854775807) (hm : m ≤ 9223372036854775807)
    (hS : Came w aS n 5 S) (hT : Came w aR m 3 T) (hsz : s.size ≤ 140737488355328) :
    Calls Try.prog 6 #[.agg #[.int .i64 (X 0), .int .i64 (X 1), .int .i64 (X 2), .int .i64 (X 3), .int .i64 (X 4), .slice aS n cn, .slice aR m cm], .string s, .int .i64 on, .int .i64 off] w fun e w' => e = .returned (.bool true) ∧ Below w.heap.size w w' := by
  have hcB := fun W (hW : Below w.heap.size w W) => Bent_any X S T aS aR n m cn cm W hX hn hm (came_below hS hW) (came_below hT hW)
  have HCB := hide hcB
  have HOK := hide (bentR_ok X S T n m)
  clear hcB hX hS hT
  generalize bentR X S T n m = R at *
  have hns := HOK.out.nstops
  have hvv : 1 ≤ R.vans ∧ R.vans ≤ 3 := by have := headOk_iff.1 HOK.out.head; omega
  have HN : Hid ((R.stops.length : Int) + R.vans = ((R.stops.length + R.vans.toNat : Nat) : Int)) := by show _ = _; omega
  have HNN : Hid (R.stops.length + R.vans.toNat ≤ 10) := by show _ ≤ _; omega
  have HDR : Hid (∀ (vs vr vw : Value) (W : World), StR W vs R → SqR W vw (R.stops.length + 1) (siteD R) → (∃ ao n c, vr = .slice ao n c) → Calls Try.prog 15 #[inst R vs vr, vw, .string s] W (DrvLeft W R.stops.length (drvS R (siteD R) s.data.toList))) := fun vs vr vw W h1 h2 h3 => driven_any R (siteD R) s vs vr vw W HOK.out h1 h2 (site_range HOK.out) hsz h3
  have HDP : Hid (∀ C S, drvS R (siteD R) s.data.toList = some (C, S) → _) := fun C S h => drv_plan HOK.out h
  have HLG : Hid (s.size ≤ 1000 → ∀ W, Calls Try.prog 22 #[.string s] W fun e w' => e = .returned (.string ⟨(legsS s.data.toList).toArray⟩) ∧ Below W.heap.size W w') := fun h W => legs_any s W h
  have HSL : Hid (s.data.toList.length = s.size) := by show _ = _; simp
  generalize drvS R (siteD R) s.data.toList = V at *
  have HC0 : Hid (∀ W, Calls Try.prog 21 #[.string ⟨(textL R).toArray⟩, .string ⟨#[]⟩, .string ⟨#[]⟩] W fun e w' => ∃ (v : Value) (T : Nat → Nat → Int), e = .returned (.tuple #[v, .int .i64 0]) ∧ GridO w' W.heap.size v (R.stops.length + R.vans.toNat) (fun i j => cellS R.stops.length T (siteD R) (lineN R.stops.length i) (lineN R.stops.length j)) ∧ (∀ a b, T a b = 1 ↔ (a, b) ∈ ([] : List (Nat × Nat))) ∧ (∀ a b, T a b = 2 ↔ (a, b) ∈ ([] : List (Nat × Nat))) ∧ (∀ a, T a a = 0) ∧ Below W.heap.size W w') := fun W => ucells R [] [] W HOK.out (by simp) (by simp) (by simp) (by simp) (by simp) (by simp) (by simp)
  go_enter Try.func6, Try.ntmps6
  go_wp2_with fail
  refine (HCB.out _ (below1 w _)).mono ?_
  rintro e1 w1 ⟨vs, vr, rfl, hos, hor, hb1⟩
  obtain ⟨aos, caps, rfl, has, hsn⟩ := own_val hos
  obtain ⟨aor, capr, rfl, har, hrn⟩ := own_val hor
  unfold inst
  have HB1 : Hid (Below w.heap.size w w1) := (below1 w _).trans (hb1.mono (by simp))
  have HOS := hide (own_base hos (show w.heap.size ≤ _ by simp))
  have HOR := hide (own_base hor (show w.heap.size ≤ _ by simp))
  have hbz := HB1.out.size
  have HY : Hid (YIs (w1.alloc (.cells (yCells R (.slice aos R.stops.length caps) (.slice aor R.roads.length capr)) 25)) w1.heap.size w.heap.size R (.slice aos R.stops.length caps) (.slice aor R.roads.length capr)) := y_new HOS.out HOR.out
  have HWY : Hid (Below w.heap.size w (w1.alloc (.cells (yCells R (.slice aos R.stops.length caps) (.slice aor R.roads.length capr)) 25))) := HB1.out.alloc hbz _
  clear hos hor hb1 has hsn har hrn HCB HOS HOR
  have HT3 := hid (text0_any w.heap.size w.heap.size R (.slice aos R.stops.length caps) (.slice aor R.roads.length capr) _ HOK.out.nice HY.out.stops HY.out.roads)
  unfold inst yCells at HT3
  go_wp2_with fail
  refine HT3.out.mono ?_
  rintro e2 w2 ⟨rfl, hb2⟩
  have HY2 := hide (HY.out.below hb2)
  have HW2 : Hid (Below w.heap.size w w2) := HWY.out.trans (hb2.mono HWY.out.size)
  obtain ⟨y0, y1, y2, y3, y4, y5, y6, yf, yl⟩ := y_cells HY2.out
  clear hb2 HT3 HY HWY
  go_wp2_with fail
  refine (HC0.out _).mono ?_
  rintro e3 w3 ⟨v3, T3, rfl, hg3, _, _, _, hb3⟩
  have HY3 := hide (HY2.out.below hb3)
  have HW3 : Hid (Below w.heap.size w w3) := HW2.out.trans (hb3.mono HW2.out.size)
  have HSQ := hid (square_any (R.stops.length + R.vans.toNat) _ v3 _ w3 (by omega) hg3.grid)
  obtain ⟨g3, G3, rfl, _⟩ := hg3
  clear y0 y1 y2 y3 y4 y5 y6 yf yl
  obtain ⟨y0, y1, y2, y3, y4, y5, y6, yf, yl⟩ := y_cells HY3.out
  clear hb3 HC0 HY2 HW2
  go_wp2_with fail
  rw [HN.out]
  refine HSQ.out.mono ?_
  rintro e4 w4 ⟨rfl, hw4⟩
  subst hw4
  clear HSQ
  have HKW := hid (kways_any w.heap.size R (.slice aos R.stops.length caps) (.slice aor R.roads.length capr) _ HOK.out HY3.out.stops HY3.out.roads)
  unfold inst at HKW
  go_wp2_with fail
  refine HKW.out.mono ?_
  rintro e5 w5 ⟨v5, rfl, hg5, hb5⟩
  have HSQ5 := hid (hg5.sq (by omega))
  have HY5 := hide (HY3.out.below hb5)
  have HW5 : Hid (Below w.heap.size w w5) := HW3.out.trans (hb5.mono HW3.out.size)
  clear y0 y1 y2 y3 y4 y5 y6 yf yl
  obtain ⟨y0, y1, y2, y3, y4, y5, y6, yf, yl⟩ := y_cells HY5.out
  obtain ⟨g5, rfl, _⟩ := hg5
  have HCD := hid (HDR.out (.slice aos R.stops.length caps) (.slice aor R.roads.length capr) _ w5 (StR.own HY5.out.stops (fun s hs => (HOK.out.nice.stops s hs).1)) HSQ5.out ⟨_, _, _, rfl⟩)
  unfold inst at HCD
  clear hb5 HKW HY3 HW3 HDR HSQ5
  cases V with
  | none =>
    clear HDP
    go_wp2_with fail
    refine HCD.out.mono ?_
    rintro e6 w6 ⟨he6, _, hb6⟩
    have he6 := he6 rfl
    subst he6
    have HW6 : Hid (Below w.heap.size w w6) := HW5.out.trans (hb6.mono HW5.out.size)
    clear hb6 HCD HY5 y0 y1 y2 y3 y4 y5 y6 yf yl
    go_wp2_with fail
    go_ret
    exact ⟨rfl, HW6.out⟩
  | some cs =>
    obtain ⟨C, Sv⟩ := cs
    obtain ⟨hlen, hpl, hcost, hlg, hln⟩ := HDP.out C Sv rfl
    have hss : s.size ≤ 14 := by rw [← HSL.out]; exact hlen
    have HLG2 := hid (HLG.out (by omega))
    rw [hlg] at HLG2
    have HPL := hid hpl
    have HCO := hid hcost
    have HAR : Hid (∀ p ∈ arcsQ (routesN s.data.toList), p.1 ≤ R.stops.length ∧ p.2 ≤ R.stops.length ∧ p.1 ≠ p.2) := fun p hp => by
      have h1 := arcs_range hpl p hp
      have h2 := arc_ne hpl p hp
      exact ⟨h1.1, h1.2, h2⟩
    have HND := hid (arcs_nodup hpl)
    have HDL := hid hlg
    generalize routesN s.data.toList = Q at *
    clear hpl hcost hlg HLG HDP HDL hlen HSL
    go_wp2_with fail
    refine HCD.out.mono ?_
    rintro e6 w6 ⟨_, hd6, hb6⟩
    obtain ⟨v6, he6, ho6, _⟩ := hd6 C Sv rfl
    subst he6
    obtain ⟨a6, c6, rfl, _, _⟩ := own_val ho6
    have HW6 : Hid (Below w.heap.size w w6) := HW5.out.trans (hb6.mono HW5.out.size)
    have HY6 := hide (HY5.out.below hb6)
    clear y0 y1 y2 y3 y4 y5 y6 yf yl
    obtain ⟨y0, y1, y2, y3, y4, y5, y6, yf, yl⟩ := y_cells HY6.out
    clear hb6 HCD HY5 hd6 ho6 HW5
    go_wp2_with fail
    refine (HLG2.out _).mono ?_
    rintro e7 w7 ⟨rfl, hb7⟩
    have HW7 : Hid (Below w.heap.size w w7) := HW6.out.trans (hb7.mono HW6.out.size)
    have HY7 := hide (HY6.out.below hb7)
    clear y0 y1 y2 y3 y4 y5 y6 yf yl hb7 HY6 HW6 HLG2
    go_wp2_with fail
    refine (some_any (arcsQ Q) on ⟨(arcsB (arcsQ Q)).toArray⟩ _ (by simp) (by omega)).mono ?_
    rintro e8 w8 ⟨⟨M1, rfl, hM1⟩, hb8⟩
    have HW8 : Hid (Below w.heap.size w w8) := HW7.out.trans (hb8.mono HW7.out.size)
    have HY8 := hide (HY7.out.below hb8)
    have HM1 := hid hM1
    clear hb8 HY7 HW7 hM1
    go_wp2_with fail
    refine (others_any R.stops.length (arcsQ Q) ⟨(arcsB (arcsQ Q)).toArray⟩ _ (by simp) (fun p hp => by have := HAR.out p hp; omega) (by omega) hns).mono ?_
    rintro e9 w9 ⟨⟨O, rfl, hO1, hO2, hO3⟩, hb9⟩
    have HW9 : Hid (Below w.heap.size w w9) := HW8.out.trans (hb9.mono HW8.out.size)
    have HY9 := hide (HY8.out.below hb9)
    have HO2 := hid hO2
    have HO3 := hid hO3
    clear hb9 HY8 HW8 hO2 hO3
    go_wp2_with fail
    refine (some_any O off ⟨(arcsB O).toArray⟩ _ (by simp) (by omega)).mono ?_
    rintro e10 w10 ⟨⟨M2, rfl, hM2⟩, hb10⟩
    have HW10 : Hid (Below w.heap.size w w10) := HW9.out.trans (hb10.mono HW9.out.size)
    have HY10 := hide (HY9.out.below hb10)
    have HM2 := hid hM2
    have hm1l := HM1.out.length_le
    have hm2l := hM2.length_le
    clear hb10 HY9 HW9 hM2
    go_wp2_with fail
    refine (ucells R M1 M2 _ HOK.out (HM1.out.nodup HND.out) (HM2.out.nodup HO2.out) (fun p hp => HAR.out p (HM1.out.subset hp)) (fun p hp => by have := (HO3.out p).1 (HM2.out.subset hp); exact ⟨this.1, this.2.1, this.2.2.1⟩) (fun p hp hc => ((HO3.out p).1 (HM2.out.subset hc)).2.2.2 (HM1.out.subset hp)) (by omega) (by omega)).mono ?_
    rintro e11 w11 ⟨v11, T11, rfl, hg11, h11a, h11b, _, hb11⟩
    have HW11 : Hid (Below w.heap.size w w11) := HW10.out.trans (hb11.mono HW10.out.size)
    have HY11 := hide (HY10.out.below hb11)
    have HBA := hid (passign_any (R.stops.length + R.vans.toNat) _ v11 w11 HNN.out (hg11.sq (by have := HNN.out; omega)) (cell_fine HOK.out T11 R.vans.toNat))
    have HAL : Hid (Along R.stops.length T11 Q) := fun a b _ _ => ⟨fun h => HM1.out.subset ((h11a a b).1 h), fun h hc => ((HO3.out _).1 (HM2.out.subset ((h11b a b).1 h))).2.2.2 hc⟩
    obtain ⟨g11, G11, rfl, _⟩ := hg11
    clear hb11 HY10 HW10 h11a h11b
    go_wp2_with fail
    refine HBA.out.mono ?_
    rintro e12 w12 hbl
    obtain ⟨hb12, q1, q2, q3, cost, rfl, hle, _⟩ := assign_plan HPL.out HAL.out hbl
    have HW12 : Hid (Below w.heap.size w w12) := HW11.out.trans (hb12.mono HW11.out.size)
    have HY12 := hide (HY11.out.below hb12)
    obtain ⟨y0, y1, y2, y3, y4, y5, y6, yf, yl⟩ := y_cells HY12.out
    rw [← HCO.out] at hle
    have hle2 : ¬ (C < cost) := by omega
    have hne : ((R.stops.length + R.vans.toNat : Nat) : Int) = (R.stops.length : Int) + R.vans := HN.out.symm
    clear hb12 HY11 HW11 HBA hbl hle
    go_wp2_with fail
    clear y0 y1 y2 y3 y4 y5 y6 yf yl
    obtain ⟨W, hWq⟩ : ∃ W, W = w12.alloc (.cells #[.bool true, .int .i64 cost, .slice (some ⟨q1, 0, none⟩) (R.stops.length + R.vans.toNat : Nat) (R.stops.length + R.vans.toNat), .slice (some ⟨q2, 0, none⟩) (R.stops.length + R.vans.toNat : Nat) (R.stops.length + R.vans.toNat), .slice (some ⟨q3, 0, none⟩) (R.stops.length + R.vans.toNat : Nat) (R.stops.length + R.vans.toNat), .slice none 0 0] 49) := ⟨_, rfl⟩
    rw [← hWq]
    have HWW : Hid (Below w.heap.size w W) := by rw [hWq]; exact HW12.out.alloc HW12.out.size _
    have HBX : Hid (W.heap[w12.heap.size]? = some (.cells #[.bool true, .int .i64 cost, .slice (some ⟨q1, 0, none⟩) (R.stops.length + R.vans.toNat : Nat) (R.stops.length + R.vans.toNat), .slice (some ⟨q2, 0, none⟩) (R.stops.length + R.vans.toNat : Nat) (R.stops.length + R.vans.toNat), .slice (some ⟨q3, 0, none⟩) (R.stops.length + R.vans.toNat : Nat) (R.stops.length + R.vans.toNat), .slice none 0 0] 49 (0, 0))) := by rw [hWq]; exact heap_alloc_new w12 _
    have HZ12 := hid HW12.out.size
    clear hWq HY12 HW12
    refine (ucells R (arcsQ Q) O _ HOK.out HND.out HO2.out HAR.out (fun p hp => by have := (HO3.out p).1 hp; exact ⟨this.1, this.2.1, this.2.2.1⟩) (fun p hp hc => ((HO3.out p).1 hc).2.2.2 hp) (by omega) (by omega)).mono ?_
    rintro e13 w13 ⟨v13, T13, rfl, hg13, h13a, h13b, h13c, hb13⟩
    have HW13 : Hid (Below w.heap.size w w13) := HWW.out.trans (hb13.mono HWW.out.size)
    have hbx : w12.heap.size < W.heap.size := (Array.getElem?_eq_some_iff.1 HBX.out).1
    have HBX13 : Hid (w13.heap[w12.heap.size]? = _) := (hb13.block _ hbx).trans HBX.out
    have HBA := hid (passign_any (R.stops.length + R.vans.toNat) _ v13 w13 HNN.out (hg13.sq (by have := HNN.out; omega)) (cell_fine HOK.out T13 R.vans.toNat))
    have HFU : Hid (FullQ R.stops.length T13 Q) := ⟨fun a b _ _ h => (h13a a b).2 h, fun a b ha hb hne h => (h13b a b).2 ((HO3.out _).2 ⟨ha, hb, hne, h⟩), h13c⟩
    obtain ⟨g13, G13, rfl, _⟩ := hg13
    clear hb13 HWW h13a h13b h13c HBX hbx
    go_wp2_with fail
    refine HBA.out.mono ?_
    rintro e14 w14 hbl
    obtain ⟨hb14, p1, p2, p3, cost2, rfl, _, hfull⟩ := assign_plan HPL.out (full_along (I := insOf R (siteD R)) HFU.out) hbl
    have hce : cost2 = C := by rw [HCO.out]; exact hfull HFU.out
    subst hce
    have HW14 : Hid (Below w.heap.size w w14) := HW13.out.trans (hb14.mono HW13.out.size)
    have hbx : w12.heap.size < w13.heap.size := (Array.getElem?_eq_some_iff.1 HBX13.out).1
    have hbx14 : w14.heap[w12.heap.size]? = _ := (hb14.block _ hbx).trans HBX13.out
    have hbl14 : w12.heap.size < w14.heap.size := (Array.getElem?_eq_some_iff.1 hbx14).1
    have m0 : w14.cell? ⟨w12.heap.size, 0, none⟩ = some (.bool true) := cell_of_row w14 w12.heap.size 0 _ _ _ hbx14
    have m1 : w14.cell? ⟨w12.heap.size, 1, none⟩ = some (.int .i64 cost) := cell_of_row w14 w12.heap.size 1 _ _ _ hbx14
    have m2 : w14.cell? ⟨w12.heap.size, 2, none⟩ = some (.slice (some ⟨q1, 0, none⟩) (R.stops.length + R.vans.toNat : Nat) (R.stops.length + R.vans.toNat)) := cell_of_row w14 w12.heap.size 2 _ _ _ hbx14
    have m3 : w14.cell? ⟨w12.heap.size, 3, none⟩ = some (.slice (some ⟨q2, 0, none⟩) (R.stops.length + R.vans.toNat : Nat) (R.stops.length + R.vans.toNat)) := cell_of_row w14 w12.heap.size 3 _ _ _ hbx14
    have m4 : w14.cell? ⟨w12.heap.size, 4, none⟩ = some (.slice (some ⟨q3, 0, none⟩) (R.stops.length + R.vans.toNat : Nat) (R.stops.length + R.vans.toNat)) := cell_of_row w14 w12.heap.size 4 _ _ _ hbx14
    have m5 : w14.cell? ⟨w12.heap.size, 5, none⟩ = some (.slice none 0 0) := cell_of_row w14 w12.heap.size 5 _ _ _ hbx14
    have HB14 := hid hbx14
    have mf := fun o => frozen_of_row w14 w12.heap.size o _ _ hbx14
    have e0 : (cost2 == cost2) = true := by simp
    clear hb14 HBX13 HW13 HBA hbl hfull hbx hbx14
    go_wp2_with fail
    go_ret
    refine ⟨rfl, ?_⟩
    have hz := HZ12.out
    exact (((((HW14.out.setCell hz _).setCell hz _).setCell hz _).setCell hz _).setCell hz _).setCell hz _
end Go.Proofs.Ytebinaopncclgaa
