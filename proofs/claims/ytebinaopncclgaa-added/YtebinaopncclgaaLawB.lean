/- Walks: the law, from its head to its end. -/
import Derived.Test.YtebinaopncclgaaLaw
namespace Go.Proofs.Ytebinaopncclgaa
open Go.RowKit Go.IntWalk

set_option maxRecDepth 100000 in
set_option maxHeartbeats 4000000 in
theorem added_full (X : Nat → Int) (S T : Nat → Nat → Int) (aS aR : Option Addr) (n m cn cm : Nat) (a b long : Int) (w : World) (hX : ∀ i, i < 5 → -9223372036854775808 ≤ X i ∧ X i ≤ 9223372036854775807) (hn : n ≤ 9223372036854775807) (hm : m ≤ 9223372036854775807)
    (hS : Came w aS n 5 S) (hT : Came w aR m 3 T) (ha : -9223372036854775808 ≤ a ∧ a ≤ 9223372036854775807) (hb : -9223372036854775808 ≤ b ∧ b ≤ 9223372036854775807) (hlg : -9223372036854775808 ≤ long ∧ long ≤ 9223372036854775807) (h40 : (bentR X S T n m).roads.length = 40) :
    Calls Try.prog 3 #[.agg #[.int .i64 (X 0), .int .i64 (X 1), .int .i64 (X 2), .int .i64 (X 3), .int .i64 (X 4), .slice aS n cn, .slice aR m cm], .int .i64 a, .int .i64 b, .int .i64 long] w fun e w' => e = .returned (.bool true) ∧ Below w.heap.size w w' := by
  obtain ⟨i0, hi, hz0, hz1, hz2⟩ := info_parts Try.infoRoad
  have hcB := fun W (hW : Below w.heap.size w W) => Bent_any X S T aS aR n m cn cm W hX hn hm (came_below hS hW) (came_below hT hW)
  have HCB := hide hcB
  have HOK0 := hide (bentR_ok X S T n m)
  clear hcB hX hS hT
  generalize bentR X S T n m = R at *
  have hns := HOK0.out.nstops
  have hnr := HOK0.out.nroads
  obtain ⟨I, hI⟩ : ∃ I : Nat, bentS a 0 (R.stops.length : Int) = (I : Int) := ⟨(bentS a 0 (R.stops.length : Int)).toNat, by have := bentS_range a 0 (R.stops.length : Int) (by omega); omega⟩
  obtain ⟨J, hJ⟩ : ∃ J : Nat, bentS b 0 (R.stops.length : Int) = (J : Int) := ⟨(bentS b 0 (R.stops.length : Int)).toNat, by have := bentS_range b 0 (R.stops.length : Int) (by omega); omega⟩
  obtain ⟨L, hL⟩ : ∃ L : Int, bentS long 0 10000 = L := ⟨_, rfl⟩
  have hIl : I ≤ R.stops.length := by have := bentS_range a 0 (R.stops.length : Int) (by omega); omega
  have hJl : J ≤ R.stops.length := by have := bentS_range b 0 (R.stops.length : Int) (by omega); omega
  have hLl : 0 ≤ L ∧ L ≤ 10000 := by have := bentS_range long 0 10000 (by omega); omega
  go_enter Try.func3, Try.ntmps3
  go_wp2_with fail
  refine (HCB.out _ (below1 w _)).mono ?_
  rintro e1 w1 ⟨vs, vr, rfl, hos, hor, hb1⟩
  obtain ⟨aos, caps, rfl, has, hsn⟩ := own_val hos
  obtain ⟨aor, capr, rfl, har, hrn⟩ := own_val hor
  unfold inst
  have HB1 : Hid (Below w.heap.size w w1) := (below1 w _).trans (hb1.mono (by simp))
  have HOS := hide (own_base hos (show w.heap.size ≤ _ by simp))
  have HOR := hide (own_base hor (show w.heap.size ≤ _ by simp))
  have hbz := HB1.out.size
  clear hos hor hb1 has hsn HCB
  have hrl0 : R.roads.length = 40 := h40
  obtain ⟨gr, hgr, _⟩ := some_of har hrn (by omega)
  subst hgr
  have hcp : 40 ≤ capr := by
    rcases HOR.out.2 with ⟨h0, _⟩ | ⟨g', cap', cur, hv, _, _, h1, _⟩
    · cases h0
    · cases hv; omega
  have HOR' : Hid (w1.ownsRow w.heap.size 35 3 (.slice (some ⟨gr, 0, none⟩) 39 capr) (R.roads.take 39).length (ints (R.roads.take 39).flatten)) := by
    show World.ownsRow _ _ _ _ _ _ _
    have h1 := own_cut HOR.out (n' := 39) (by omega)
    rw [flat_take (fun s hs => (HOK0.out.nice.roads s hs).1)] at h1
    rw [show (R.roads.take 39).length = 39 by simp; omega]; exact h1
  have HOK : Hid (RdOk (withRoads R (R.roads.take 39))) := ok_cut HOK0.out 39
  have hrl : (withRoads R (R.roads.take 39)).roads.length ≤ 39 := by show (R.roads.take 39).length ≤ 39; simp; omega
  have hml : (withRoads R (R.roads.take 39)).roads.length = 39 := by show (R.roads.take 39).length = 39; simp; omega
  have HML := hide hml
  have hlt40 : ((R.roads.length : Int) == 40) = true := by rw [beq_iff_eq]; omega
  have hle39 : (39 : Int) ≤ (capr : Int) := by omega
  clear har hrn h40 hml
  go_wp2_with (go_at_call 8; refine (bent_any _ _ _ _ (by omega) (by omega) (by omega) (by omega) (by omega)).mono ?_; rintro e w' ⟨rfl, rfl⟩)
  have HY : Hid (YIs (w1.alloc (.cells (yCells R (.slice aos R.stops.length caps) (.slice (some ⟨gr, 0, none⟩) 39 capr)) 25)) w1.heap.size w.heap.size (withRoads R (R.roads.take 39)) (.slice aos R.stops.length caps) (.slice (some ⟨gr, 0, none⟩) 39 capr)) := y_new (r := withRoads R (R.roads.take 39)) HOS.out HOR'.out
  have HWY : Hid (Below w.heap.size w (w1.alloc (.cells (yCells R (.slice aos R.stops.length caps) (.slice (some ⟨gr, 0, none⟩) 39 capr)) 25))) := HB1.out.alloc hbz _
  have hvb : ∀ k, (Value.slice (some ⟨gr, 0, none⟩) 39 capr).ownBlock = some k → k < w1.heap.size := fun k hk => (HOR'.out.lt k hk).2
  have HVB := hide hvb
  clear HOS HOR HOR' HB1 hvb

  refine (text0_any w.heap.size w.heap.size (withRoads R (R.roads.take 39)) (.slice aos R.stops.length caps) (.slice (some ⟨gr, 0, none⟩) 39 capr) _ HOK.out.nice HY.out.stops HY.out.roads).mono ?_
  rintro e3 w3 ⟨rfl, hb3⟩
  have HW3 : Hid (Below w.heap.size w w3) := HWY.out.trans (hb3.mono HWY.out.size)
  have HY3 := hide (HY.out.below hb3)
  have hz3 : w1.heap.size < w3.heap.size := by have := hb3.size; simp at this; omega
  clear hb3 HY HWY
  go_wp2_with fail
  refine (ways_text HOK.out _).mono ?_
  rintro e4 w4 ⟨vw, rfl, hg4, hb4⟩
  have HW4 : Hid (Below w.heap.size w w4) := HW3.out.trans (hb4.mono HW3.out.size)
  have HY4 := hide (HY3.out.below hb4)
  have HG4 := hide hg4
  obtain ⟨y0, y1, y2, y3, y4, y5, y6, yf, yl⟩ := y_cells HY4.out
  obtain ⟨g4, hv4⟩ : ∃ g4, vw = .slice (some ⟨g4, 0, none⟩) (R.stops.length + 1) (R.stops.length + 1) := by obtain ⟨g, hv, _⟩ := hg4; exact ⟨g, hv⟩
  subst hv4
  clear hg4
  clear hb4 HW3 HY3
  go_wp2_with fail
  refine (spot_z w.heap.size I (withRoads R (R.roads.take 39)) (.slice aos R.stops.length caps) (.slice (some ⟨gr, 0, none⟩) 39 capr) _ HOK.out.nice (by show I < R.stops.length + 1; omega) HY4.out.stops).mono ?_
  rintro e5 w5 ⟨rfl, hb5⟩
  have HW5 : Hid (Below w.heap.size w w5) := HW4.out.trans (hb5.mono HW4.out.size)
  have HY5 := hide (HY4.out.below hb5)
  have HG5 := hide (HG4.out.below hb5)
  clear hb5 HW4 HY4 HG4 y0 y1 y2 y3 y4 y5 y6 yf yl
  obtain ⟨y0, y1, y2, y3, y4, y5, y6, yf, yl⟩ := y_cells HY5.out
  go_wp2_with fail
  refine (spot_z w.heap.size J (withRoads R (R.roads.take 39)) (.slice aos R.stops.length caps) (.slice (some ⟨gr, 0, none⟩) 39 capr) _ HOK.out.nice (by show J < R.stops.length + 1; omega) HY5.out.stops).mono ?_
  rintro e6 w6 ⟨rfl, hb6⟩
  have HW6 : Hid (Below w.heap.size w w6) := HW5.out.trans (hb6.mono HW5.out.size)
  have HY6 := hide (HY5.out.below hb6)
  have HG6 := hide (HG5.out.below hb6)
  clear hb6 HW5 HY5 HG5 y0 y1 y2 y3 y4 y5 y6 yf yl
  obtain ⟨y0, y1, y2, y3, y4, y5, y6, yf, yl⟩ := y_cells HY6.out
  have hw6 := HW6.out.size
  have HRW6 : Hid (w6.ownsRow w.heap.size 35 3 (.slice (some ⟨gr, 0, none⟩) 39 capr) 39 (ints ((withRoads R (R.roads.take 39))).roads.flatten)) := by have h := HY6.out.roads; rw [HML.out] at h; exact h
  go_wp2_with (first
    | (at_builtin; refine wpList_append_own _ rfl _ _ 23 rfl w.heap.size 35 i0 (.agg #[.int .i64 0, .int .i64 0, .int .i64 0]) 3 24 Try.underlying23 hi hz0 hz1 hz2 rfl (by decide) _ _ _ rfl (HRW6.out.alloc _) ⟨w6.heap.size, 0, none⟩ 1 1 [.int .i64 (siteZ (withRoads R (R.roads.take 39)) I), .int .i64 (siteZ (withRoads R (R.roads.take 39)) J), .int .i64 L] rfl rfl ?c1 ?c2 ?c3 ?c4 ?c5 ?_)
    | fail)
  case c1 => exact news_at rfl rfl
  case c2 => exact ints3 _ _ _
  case c3 => show 39 + 1 ≤ maxLen; unfold maxLen; omega
  case c4 => show (39 + 1) * 24 ≤ _; omega
  case c5 => simp; omega
  intro v7 w7 hown7 hgrow7 _
  have hsh : ∃ g7 c7, v7 = .slice (some ⟨g7, 0, none⟩) (39 + 1) c7 := by
    obtain ⟨g7, c7, _, hv7, _⟩ := own_shape hown7 (by omega)
    exact ⟨g7, c7, hv7⟩
  obtain ⟨g7, c7, hv7⟩ := hsh
  subst hv7
  obtain ⟨hh7, hY8⟩ := y_append (v' := .slice (some ⟨g7, 0, none⟩) (39 + 1) c7) HY6.out hgrow7 (by rw [HML.out]; exact hown7)
  have HG7 : Hid (Grid (w7.setCell ⟨w1.heap.size, 6, none⟩ (.slice (some ⟨g7, 0, none⟩) (39 + 1) c7)) w3.heap.size (.slice (some ⟨g4, 0, none⟩) (R.stops.length + 1) (R.stops.length + 1)) (R.stops.length + 1) (fun i j => wayF (withRoads R (R.roads.take 39)) (siteN (withRoads R (R.roads.take 39)) i) (siteN (withRoads R (R.roads.take 39)) j))) :=
    ((HG6.out.below (below1 w6 _)).grown hgrow7 (fun k hk => by have := HVB.out k hk; omega)).setCell hz3 _
  have HW8 : Hid (Below w.heap.size w (w7.setCell ⟨w1.heap.size, 6, none⟩ (.slice (some ⟨g7, 0, none⟩) (39 + 1) c7))) :=
    ((HW6.out.alloc hw6 _).grown hgrow7 (by simp; omega) (fun k hk => (HRW6.out.lt k hk).1)).setCell hbz _
  have HY8 := hide hY8
  have hsz7 : w.heap.size ≤ w7.heap.size := by have h1 := hgrow7.size; simp at h1; omega
  clear y0 y1 y2 y3 y4 y5 y6 yf yl hown7 hgrow7 hY8 HY6 HG6 HW6
  obtain ⟨y0, y1, y2, y3, y4, y5, y6, yf, yl⟩ := heap_cells7 hh7
  clear hh7
  have HOK8 : Hid (RdOk (withRoads (withRoads R (R.roads.take 39)) (((withRoads R (R.roads.take 39))).roads ++ [[siteZ (withRoads R (R.roads.take 39)) I, siteZ (withRoads R (R.roads.take 39)) J, L]]))) := ok_more HOK.out (show I < R.stops.length + 1 by omega) (show J < R.stops.length + 1 by omega) hLl hrl
  go_wp2_with fail
  refine (text0_any w.heap.size w.heap.size (withRoads (withRoads R (R.roads.take 39)) (((withRoads R (R.roads.take 39))).roads ++ [[siteZ (withRoads R (R.roads.take 39)) I, siteZ (withRoads R (R.roads.take 39)) J, L]])) (.slice aos R.stops.length caps) (.slice (some ⟨g7, 0, none⟩) (39 + 1) c7) _ HOK8.out.nice HY8.out.stops HY8.out.roads).mono ?_
  rintro e9 w9 ⟨rfl, hb9⟩
  have HW9 : Hid (Below w.heap.size w w9) := HW8.out.trans (hb9.mono HW8.out.size)
  have HY9 := hide (HY8.out.below hb9)
  have HG9 := hide (HG7.out.below hb9)
  clear hb9 HW8 HY8 HG7 y0 y1 y2 y3 y4 y5 y6 yf yl
  go_wp2_with fail
  refine (ways_text HOK8.out _).mono ?_
  rintro e10 w10 ⟨vv, rfl, hg10, hb10⟩
  have HW10 : Hid (Below w.heap.size w w10) := HW9.out.trans (hb10.mono HW9.out.size)
  have HY10 := hide (HY9.out.below hb10)
  have HG10 := hide (HG9.out.below hb10)
  have HV10 := hide hg10
  obtain ⟨y0, y1, y2, y3, y4, y5, y6, yf, yl⟩ := y_cells HY10.out
  obtain ⟨g10, hv10⟩ : ∃ g10, vv = .slice (some ⟨g10, 0, none⟩) (R.stops.length + 1) (R.stops.length + 1) := by obtain ⟨g, hv, _⟩ := hg10; exact ⟨g, hv⟩
  subst hv10
  clear hg10
  have hz9 : w1.heap.size < w9.heap.size := (Array.getElem?_eq_some_iff.1 HY9.out.heap).1
  have HY11 : Hid (YIs (w10.setCell ⟨w1.heap.size, 6, none⟩ (.slice none 0 0)) w1.heap.size w.heap.size (withRoads (withRoads R (R.roads.take 39)) []) (.slice aos R.stops.length caps) (.slice none 0 0)) := y_put HY10.out.heap HY10.out.stops (World.ownsRow_nil _ _ _ _)
  have HG11 := hide (HG10.out.setCell (o := 6) hz3 (.slice none 0 0))
  have HV11 := hide (HV10.out.setCell (o := 6) hz9 (.slice none 0 0))
  have HW11 : Hid (Below w.heap.size w (w10.setCell ⟨w1.heap.size, 6, none⟩ (.slice none 0 0))) := HW10.out.setCell hbz _
  clear hb10 HW9 HY9 HG9 HW10 HY10 HG10 HV10
  have HOK11 : Hid (RdOk (withRoads (withRoads R (R.roads.take 39)) [])) := ok_none HOK.out
  go_wp2_with fail
  refine (text0_any w.heap.size w.heap.size (withRoads (withRoads R (R.roads.take 39)) []) (.slice aos R.stops.length caps) (.slice none 0 0) _ HOK11.out.nice HY11.out.stops HY11.out.roads).mono ?_
  rintro e12 w12 ⟨rfl, hb12⟩
  have HW12 : Hid (Below w.heap.size w w12) := HW11.out.trans (hb12.mono HW11.out.size)
  have HY12 := hide (HY11.out.below hb12)
  have HG12 := hide (HG11.out.below hb12)
  have HV12 := hide (HV11.out.below hb12)
  clear hb12 HW11 HY11 HG11 HV11 y0 y1 y2 y3 y4 y5 y6 yf yl
  go_wp2_with fail
  refine (ways_text HOK11.out _).mono ?_
  rintro e13 w13 ⟨vu, rfl, hg13, hb13⟩
  have HW13 : Hid (Below w.heap.size w w13) := HW12.out.trans (hb13.mono HW12.out.size)
  have HY13 := hide (HY12.out.below hb13)
  have HG13 := hide (HG12.out.below hb13)
  have HV13 := hide (HV12.out.below hb13)
  have HU13 := hide hg13
  obtain ⟨g13, hv13⟩ : ∃ g13, vu = .slice (some ⟨g13, 0, none⟩) (R.stops.length + 1) (R.stops.length + 1) := by obtain ⟨g, hv, _⟩ := hg13; exact ⟨g, hv⟩
  subst hv13
  clear hg13
  clear hb13 HW12 HY12 HG12 HV12
  go_wp2_with fail
  refine (square_any (R.stops.length + 1) _ _ _ w13 (by omega) HG13.out).mono ?_
  rintro e14 w14 ⟨rfl, rfl⟩
  go_wp2_with fail
  refine (square_any (R.stops.length + 1) _ _ _ _ (by omega) HV13.out).mono ?_
  rintro e15 w15 ⟨rfl, rfl⟩
  go_wp2_with fail
  refine (square_any (R.stops.length + 1) _ _ _ _ (by omega) HU13.out).mono ?_
  rintro e16 w16 ⟨rfl, rfl⟩
  have HU : Hid (Grid w16 w12.heap.size (.slice (some ⟨g13, 0, none⟩) (R.stops.length + 1) (R.stops.length + 1)) (R.stops.length + 1) (fun i j => wayF (withRoads (withRoads R (R.roads.take 39)) []) (siteN (withRoads R (R.roads.take 39)) i) (siteN (withRoads R (R.roads.take 39)) j))) := HU13
  have HV : Hid (Grid w16 w9.heap.size (.slice (some ⟨g10, 0, none⟩) (R.stops.length + 1) (R.stops.length + 1)) (R.stops.length + 1) (fun i j => wayF (withRoads (withRoads R (R.roads.take 39)) (((withRoads R (R.roads.take 39))).roads ++ [[siteZ (withRoads R (R.roads.take 39)) I, siteZ (withRoads R (R.roads.take 39)) J, L]])) (siteN (withRoads R (R.roads.take 39)) i) (siteN (withRoads R (R.roads.take 39)) j))) := HV13
  clear HU13 HV13
  go_wp2_with fail
  go_loopw [15, 16, 24, 25] (fun _ _ i _ wr => ∃ k : Nat, i = .int .i64 k ∧ k ≤ R.stops.length + 1 ∧ Hid (Below w16.heap.size w16 wr)) (fun _ _ i _ _ => R.stops.length + 1 - (intOf i).toNat)
  case atStart => exact ⟨0, rfl, by omega, Below.refl _ _⟩
  case round =>
    obtain ⟨k, rfl, hk, HB⟩ := hrel
    by_cases hlk : k < R.stops.length + 1
    · have hdk : decide ((k : Int) < (R.stops.length : Int) + 1) = true := by rw [decide_eq_true_eq]; omega
      go_wp2_with fail
      go_loopw [15, 16, 25] (fun _ _ j wr => ∃ l : Nat, j = .int .i64 l ∧ l ≤ R.stops.length + 1 ∧ Hid (Below w16.heap.size w16 wr)) (fun _ _ j _ => R.stops.length + 1 - (intOf j).toNat)
      case atStart => exact ⟨0, rfl, by omega, HB⟩
      case round =>
        clear HB
        obtain ⟨l, rfl, hl, HB⟩ := hrel
        by_cases hll : l < R.stops.length + 1
        · have HYr := hide (HY13.out.below HB.out)
          obtain ⟨y0, y1, y2, y3, y4, y5, y6, yf, yl⟩ := y_cells HYr.out
          go_wp2_with fail
          refine (spot_z w.heap.size k (withRoads (withRoads R (R.roads.take 39)) []) (.slice aos R.stops.length caps) (.slice none 0 0) _ HOK11.out.nice (by show k < R.stops.length + 1; omega) HYr.out.stops).mono ?_
          rintro e17 w17 ⟨rfl, hb17⟩
          have HB17 : Hid (Below w16.heap.size w16 w17) := HB.out.trans (hb17.mono HB.out.size)
          have HY17 := hide (HYr.out.below hb17)
          clear hb17 HYr HB y0 y1 y2 y3 y4 y5 y6 yf yl
          obtain ⟨y0, y1, y2, y3, y4, y5, y6, yf, yl⟩ := y_cells HY17.out
          go_wp2_with fail
          refine (spot_z w.heap.size l (withRoads (withRoads R (R.roads.take 39)) []) (.slice aos R.stops.length caps) (.slice none 0 0) _ HOK11.out.nice (by show l < R.stops.length + 1; omega) HY17.out.stops).mono ?_
          rintro e18 w18 ⟨rfl, hb18⟩
          have HB18 : Hid (Below w16.heap.size w16 w18) := HB17.out.trans (hb18.mono HB17.out.size)
          obtain ⟨g, hgv, _, hgi⟩ := HU.out.below HB18.out
          cases hgv
          obtain ⟨gi, c1, _, c2⟩ := hgi k hlk
          have c3 := c2 l hll
          dsimp only at c3
          rw [diag_site HOK.out (show k < ((withRoads R (R.roads.take 39))).stops.length + 1 from hlk) (show l < ((withRoads R (R.roads.take 39))).stops.length + 1 from hll)] at c3
          have c4 : w18.cell? ⟨gi, l, none⟩ = some (.int .i64 (if siteZ (withRoads (withRoads R (R.roads.take 39)) []) k = siteZ (withRoads (withRoads R (R.roads.take 39)) []) l then 0 else -1)) := c3
          generalize siteZ (withRoads (withRoads R (R.roads.take 39)) []) k = P at *
          generalize siteZ (withRoads (withRoads R (R.roads.take 39)) []) l = Q at *
          have HC1 : Hid (w18.cell? ⟨g13, k, none⟩ = some (.slice (some ⟨gi, 0, none⟩) (R.stops.length + 1) (R.stops.length + 1))) := c1
          have c1' := HC1.out
          clear hb18 HB17 HY17 hgi c1 c2 c3 y0 y1 y2 y3 y4 y5 y6 yf yl
          by_cases hpq : P = Q
          · subst hpq
            rw [if_pos rfl] at c4
            go_wp2
            go_roundw
            case rel => exact ⟨l + 1, by go_num, by omega, HB18⟩
            case measure => simp [intOf]; omega
          · rw [if_neg hpq] at c4
            have e1 : (P == Q) = false := beq_eq_false_iff_ne.2 hpq
            have e2 : (P != Q) = true := bne_iff_ne.2 hpq
            have HPQ := hide hpq
            clear hpq
            go_wp2
            go_roundw
            case rel => exact ⟨l + 1, by go_num, by omega, HB18⟩
            case measure => simp [intOf]; omega
        · go_wp2
          go_roundw
          case rel => exact ⟨k + 1, by go_num, by omega, HB⟩
          case measure => simp [intOf]; omega
    · go_wp2_with fail
      refine (added_any (R.stops.length + 1) I J _ _ L _ _ (fun i j => wayF (withRoads R (R.roads.take 39)) (siteN (withRoads R (R.roads.take 39)) i) (siteN (withRoads R (R.roads.take 39)) j)) (fun i j => wayF (withRoads (withRoads R (R.roads.take 39)) (((withRoads R (R.roads.take 39))).roads ++ [[siteZ (withRoads R (R.roads.take 39)) I, siteZ (withRoads R (R.roads.take 39)) J, L]])) (siteN (withRoads R (R.roads.take 39)) i) (siteN (withRoads R (R.roads.take 39)) j)) _ (by omega) (by omega) (by omega) hLl (HG13.out.below HB.out) (HV.out.below HB.out) ?_ ?_).mono ?_
      · intro i j hi' hj'
        have := way_range HOK.out (siteN_lt HOK.out (ok_nodes HOK.out).1 (show i < ((withRoads R (R.roads.take 39))).stops.length + 1 from hi')) (siteN_lt HOK.out (ok_nodes HOK.out).1 (show j < ((withRoads R (R.roads.take 39))).stops.length + 1 from hj'))
        omega
      · intro i j hi' hj'
        exact way_more HOK.out (show I < R.stops.length + 1 by omega) (show J < R.stops.length + 1 by omega) hLl hrl i j hi' hj'
      · rintro e19 w19 ⟨rfl, q19, rfl⟩
        go_wp2
        go_ret
        refine ⟨rfl, ?_⟩
        have hB := HW13.out.trans (HB.out.mono HW13.out.size)
        exact ⟨hB.os, hB.tape, hB.output, hB.size, hB.block⟩
end Go.Proofs.Ytebinaopncclgaa
