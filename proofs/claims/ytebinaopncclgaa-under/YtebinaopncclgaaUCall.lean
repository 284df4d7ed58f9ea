/- Walks: cells of a text that has an instance, the least sum of them. -/
import Derived.Test.YtebinaopncclgaaDrvD
import Derived.Test.YtebinaopncclgaaPlainK
import Derived.Test.YtebinaopncclgaaSqP
import Derived.Test.YtebinaopncclgaaUWalk
import Derived.Test.YtebinaopncclgaaQJudge
import Derived.Test.YtebinaopncclgaaCDep
import Derived.Test.YtebinaopncclgaaADep
namespace Go.Proofs.Ytebinaopncclgaa
open Go.RowKit Go.IntWalk

theorem stop_want {r : Rd} (hok : RdOk r) (k : Nat) : 0 ≤ stopV r k 1 := by
  unfold stopV
  by_cases h : k - 1 < r.stops.length
  · obtain ⟨b0, b1, b2, b3, b4, hab, hsk⟩ := hok.stops _ (List.getElem_mem h)
    have hg' : r.stops.getD (k - 1) [] = [b0, b1, b2, b3, b4] := by rw [List.getD_eq_getElem?_getD, List.getElem?_eq_getElem h, Option.getD_some, hab]
    simp only [stopOk, Bool.and_eq_true, fit_iff, decide_eq_true_eq] at hsk
    rw [hg']
    show 0 ≤ b1
    omega
  · have hg' : r.stops.getD (k - 1) [] = [] := by rw [List.getD_eq_getElem?_getD, List.getElem?_eq_none (by omega)]; rfl
    rw [hg']
    exact Int.le_refl _
theorem drv_judge {r : Rd} {D : Nat → Nat → Int} {l : List UInt8} (hok : RdOk r) :
    (∀ C S, drvS r D l = some (C, S) → judgeS r D l = (C, some S, 0)) ∧ (drvS r D l = none → ∃ e, e ≠ 0 ∧ judgeS r D l = (0, none, e)) := by
  have hld : 0 ≤ r.load := by have := headOk_iff.1 hok.head; omega
  unfold drvS judgeS
  by_cases hf : textFaultS r.stops.length l = 0
  · have hb : ∀ c ∈ l, c = 47 ∨ 49 ≤ c.toNat := fun c hc => by
      rcases plan_bytes (fine_size hf).2.1 c hc with h | h
      · exact .inl h
      · exact .inr h.1
    rw [if_neg (show ¬ textFaultS r.stops.length l ≠ 0 by omega)]
    by_cases hv : r.vans < ((routesS l).length : Int)
    · rw [if_neg (fun h => h.2 hv), if_pos hv]
      exact ⟨fun C S e => (by cases e), fun _ => ⟨8, by omega, rfl⟩⟩
    · rw [if_pos ⟨hf, hv⟩, if_neg hv]
      obtain ⟨h1, h2⟩ := driven_good (r := r) (D := D) (Z := List.replicate r.stops.length 0) (stop_want hok) hld hb
      refine ⟨fun C S e => ?_, fun e => ?_⟩
      · obtain ⟨k1, k2, k3, k4⟩ := h1 C S e
        rw [if_neg (by rw [k1]; simp), if_neg (by rw [k2]; simp), k3, k4]
      · have h3 := h2 e
        by_cases g1 : (routesS l).all (loadOk r) = false
        · rw [if_pos g1]; exact ⟨9, by omega, rfl⟩
        · rw [if_neg g1]
          by_cases g2 : (routesS l).all (wayOk D) = false
          · rw [if_pos g2]; exact ⟨10, by omega, rfl⟩
          · rw [if_neg g2]
            cases ht : timesS r D (routesS l) (List.replicate r.stops.length 0) with
            | none => exact ⟨11, by omega, rfl⟩
            | some S => exact absurd ⟨by simpa using g1, by simpa using g2, by rw [ht]; simp⟩ h3
  · rw [if_neg (fun h => hf h.1), if_pos hf]
    exact ⟨fun C S e => (by cases e), fun _ => ⟨_, hf, rfl⟩⟩
theorem Grid.sq {w : World} {B : Nat} {v : Value} {n : Nat} {D : Nat → Nat → Int} (h : Grid w B v n D) (hn : n ≤ 100) : SqR w v n D := by
  obtain ⟨g, rfl, hg, hr⟩ := h
  refine ⟨_, _, rfl, hn, fun i hi => ?_⟩
  obtain ⟨gi, h1, h2, h3⟩ := hr i hi
  exact ⟨g, gi, n, rfl, hg.2, h1, h2.2, h3⟩

set_option maxRecDepth 100000 in
set_option maxHeartbeats 2000000 in
theorem kways_any (B : Nat) (r : Rd) (vs vr : Value) (w : World) (hok : RdOk r) (hs : w.ownsRow B 60 5 vs r.stops.length (ints r.stops.flatten)) (hr : w.ownsRow B 35 3 vr r.roads.length (ints r.roads.flatten)) :
    Calls Try.prog 14 #[inst r vs vr] w fun e w' => ∃ v, e = .returned (.tuple #[v, .bool true]) ∧ Grid w' w.heap.size v (r.stops.length + 1) (siteD r) ∧ Below w.heap.size w w' := by
  have hns := hok.nstops
  obtain ⟨aos, caps, rfl, _, _⟩ := own_val hs
  obtain ⟨aor, capr, rfl, _, _⟩ := own_val hr
  obtain ⟨W, hW⟩ : ∃ W, W = w.alloc (.cells (yCells r (.slice aos r.stops.length caps) (.slice aor r.roads.length capr)) 25) := ⟨_, rfl⟩
  obtain ⟨hbW, hbox, k0, k1, k2, k3, k4, k5, k6⟩ := inst_box hW
  have HT := hid (text0_any B B r (.slice aos r.stops.length caps) (.slice aor r.roads.length capr) W hok.nice (own_below hs hbW) (own_below hr hbW))
  have HW : Hid (∀ W', Calls Try.prog 9 #[.string ⟨(textL r).toArray⟩] W' fun e w' => ∃ v, e = .returned (.tuple #[v, .int .i64 0]) ∧ Grid w' W'.heap.size v (r.stops.length + 1) (siteD r) ∧ Below W'.heap.size W' w') := fun W' => ways_text hok W'
  have HBW := hid hbW
  have HWQ := hid hW
  clear hs hr hok hW hbW
  unfold yCells inst at *
  go_enter Try.func14, Try.ntmps14
  go_wp2_with fail
  rw [← HWQ.out]
  refine HT.out.mono ?_
  rintro e1 w1 ⟨rfl, hb1⟩
  have HB1 : Hid (Below W.heap.size W w1) := hb1
  clear hb1 HT
  go_wp2_with fail
  refine (HW.out _).mono ?_
  rintro e2 w2 ⟨v2, rfl, hg2, hb2⟩
  have HG2 := hid hg2
  have HB2 : Hid (Below W.heap.size W w2) := HB1.out.trans (hb2.mono HB1.out.size)
  have y5 : w2.cell? _ = _ := (HB2.out.cell (by exact hbox)).trans k5
  have hbx : w.heap.size < w2.heap.size := Nat.lt_of_lt_of_le hbox HB2.out.size
  have HSQ := hid (square_any (r.stops.length + 1) _ v2 (siteD r) w2 (by omega) hg2)
  obtain ⟨g, rfl, _⟩ := hg2
  clear hb2
  go_wp2_with (first
    | (go_at_call 12; refine HSQ.out.mono ?_; rintro e3 w3 ⟨he3, hw3⟩; subst he3; rw [hw3]; clear hw3 w3)
    | go_in)
  go_ret2
  exact ⟨_, rfl, HG2.out.base (Nat.le_trans HBW.out.size HB1.out.size), HBW.out.trans (HB2.out.mono HBW.out.size)⟩

theorem row_read {w : World} {B n : Nat} {ao : Option Addr} {c : Nat} {zs : List Int} (h : w.ownsRow B 3 1 (.slice ao n c) n (ints zs)) (hl : zs.length = n) : ∀ j, j < n → ∃ g, ao = some ⟨g, 0, none⟩ ∧ g < w.heap.size ∧ w.cell? ⟨g, j, none⟩ = some (.int .i64 (zs.getD j 0)) := by
  intro j hj
  obtain ⟨ao', c', hv, h1, h2⟩ := own_val h
  cases hv
  cases ao with
  | none => exact absurd (h2 rfl) (by omega)
  | some a =>
    obtain ⟨g, rfl, _, hg⟩ := h1 a rfl
    refine ⟨g, rfl, hg, ?_⟩
    rw [h.cellAt j (by omega)]
    simp [ints, List.getD_eq_getElem?_getD, List.getElem?_eq_getElem (show j < zs.length by omega)]

set_option maxRecDepth 100000 in
set_option maxHeartbeats 4000000 in
theorem driven_walk (X : Nat → Int) (S T : Nat → Nat → Int) (aS aR : Option Addr) (n m cn cm : Nat) (s : ByteArray) (w : World) (hX : ∀ i, i < 5 → -9223372036854775808 ≤ X i ∧ X i ≤ 9223372036854775807) (hn : n ≤ 9223372036854775807) (hm : m ≤ 9223372036854775807)
    (hS : Came w aS n 5 S) (hT : Came w aR m 3 T) (hsz : s.size ≤ 140737488355328) :
    Calls Try.prog 4 #[.agg #[.int .i64 (X 0), .int .i64 (X 1), .int .i64 (X 2), .int .i64 (X 3), .int .i64 (X 4), .slice aS n cn, .slice aR m cm], .string s] w fun e w' => e = .returned (.bool true) ∧ Below w.heap.size w w' := by
  have hcB := fun W (hW : Below w.heap.size w W) => Bent_any X S T aS aR n m cn cm W hX hn hm (came_below hS hW) (came_below hT hW)
  have HCB := hide hcB
  have HOK := hide (bentR_ok X S T n m)
  clear hcB hX hS hT
  generalize bentR X S T n m = R at *
  have hns := HOK.out.nstops
  have HDJ := hid (drv_judge (D := siteD R) (l := s.data.toList) HOK.out)
  have HTX : Hid (parseS (⟨(textL R).toArray⟩ : ByteArray).data.toList = (R, 0, 0)) := by show parseS (textL R).toArray.toList = _; simpa using parse_text HOK.out
  have HTS : Hid ((⟨(textL R).toArray⟩ : ByteArray).size ≤ maxLen) := by have := textL_length HOK.out; show (textL R).toArray.size ≤ _; unfold maxLen; simp; omega
  have HJU : Hid (∀ W, Calls Try.prog 16 #[.string ⟨(textL R).toArray⟩, .string s] W (JudgeLeft W R.stops.length (judgeS R (siteD R) s.data.toList))) := fun W => djudge_ok ⟨(textL R).toArray⟩ s R W HTS.out (by unfold maxLen; omega) HTX.out HOK.out
  have HDR : Hid (∀ (vs vr vw : Value) (W : World), StR W vs R → SqR W vw (R.stops.length + 1) (siteD R) → (∃ ao n c, vr = .slice ao n c) → Calls Try.prog 15 #[inst R vs vr, vw, .string s] W (DrvLeft W R.stops.length (drvS R (siteD R) s.data.toList))) := fun vs vr vw W h1 h2 h3 => driven_any R (siteD R) s vs vr vw W HOK.out h1 h2 (site_range HOK.out) hsz h3
  generalize judgeS R (siteD R) s.data.toList = J at *
  generalize drvS R (siteD R) s.data.toList = V at *
  clear HTX HTS
  go_enter Try.func4, Try.ntmps4
  go_wp2_with fail
  refine (HCB.out _ (below1 w _)).mono ?_
  rintro e1 w1 ⟨vs, vr, rfl, hos, hor, hb1⟩
  obtain ⟨aos, caps, rfl, has, hsn⟩ := own_val hos
  obtain ⟨aor, capr, rfl, har, hrn⟩ := own_val hor
  unfold inst
  have HB1 : Hid (Below w.heap.size w w1) := (below1 w _).trans (hb1.mono (by simp))
  have HOS := hide (own_base hos (show w.heap.size ≤ _ by simp))
  have HOR := hide (own_base hor (show w.heap.size ≤ _ by simp))
  have hbz := HB1.out.size
  have HY : Hid (YIs (w1.alloc (.cells (yCells R (.slice aos R.stops.length caps) (.slice aor R.roads.length capr)) 25)) w1.heap.size w.heap.size R (.slice aos R.stops.length caps) (.slice aor R.roads.length capr)) := y_new HOS.out HOR.out
  have HWY : Hid (Below w.heap.size w (w1.alloc (.cells (yCells R (.slice aos R.stops.length caps) (.slice aor R.roads.length capr)) 25))) := HB1.out.alloc hbz _
  clear hos hor hb1 has hsn har hrn HCB HOS HOR
  have HKW := hid (kways_any w.heap.size R (.slice aos R.stops.length caps) (.slice aor R.roads.length capr) _ HOK.out HY.out.stops HY.out.roads)
  unfold inst yCells at HKW
  go_wp2_with fail
  refine HKW.out.mono ?_
  rintro e2 w2 ⟨v2, rfl, hg2, hb2⟩
  have HSQ2 := hid (hg2.sq (by omega))
  have HY2 := hide (HY.out.below hb2)
  have HW2 : Hid (Below w.heap.size w w2) := HWY.out.trans (hb2.mono HWY.out.size)
  obtain ⟨y0, y1, y2, y3, y4, y5, y6, yf, yl⟩ := y_cells HY2.out
  obtain ⟨g2, rfl, _⟩ := hg2
  have HCD := hid (HDR.out (.slice aos R.stops.length caps) (.slice aor R.roads.length capr) _ w2 (StR.own HY2.out.stops (fun s hs => (HOK.out.nice.stops s hs).1)) HSQ2.out ⟨_, _, _, rfl⟩)
  unfold inst at HCD
  clear hb2 HKW HY HWY HDR HSQ2
  cases V with
  | none =>
    obtain ⟨er, her, hJ⟩ := HDJ.out.2 rfl
    subst hJ
    have e0 : (er == 0) = false := by simpa using her
    clear HDJ
    go_wp2_with fail
    refine HCD.out.mono ?_
    rintro e3 w3 ⟨he3, _, hb3⟩
    have he3 := he3 rfl
    subst he3
    have HY3 := hide (HY2.out.below hb3)
    have HW3 : Hid (Below w.heap.size w w3) := HW2.out.trans (hb3.mono HW2.out.size)
    have HT3 := hid (text0_any w.heap.size w.heap.size R (.slice aos R.stops.length caps) (.slice aor R.roads.length capr) w3 HOK.out.nice HY3.out.stops HY3.out.roads)
    unfold inst at HT3
    clear y0 y1 y2 y3 y4 y5 y6 yf yl
    obtain ⟨y0, y1, y2, y3, y4, y5, y6, yf, yl⟩ := y_cells HY3.out
    clear hb3 HCD HY2
    go_wp2_with fail
    refine HT3.out.mono ?_
    rintro e4 w4 ⟨rfl, hb4⟩
    have HW4 : Hid (Below w.heap.size w w4) := HW3.out.trans (hb4.mono HW3.out.size)
    clear hb4 HT3 HY3 y0 y1 y2 y3 y4 y5 y6 yf yl
    go_wp2_with fail
    refine (HJU.out _).mono ?_
    rintro e5 w5 ⟨v5, rfl, hn5, _, hb5⟩
    have hv5 := hn5 rfl
    subst hv5
    have HW5 : Hid (Below w.heap.size w w5) := HW4.out.trans (hb5.mono HW4.out.size)
    clear hn5 hb5 HJU
    go_wp2_with go_in
    go_loop [14] (fun i => ∃ k : Nat, i = .int .i64 k ∧ k ≤ 0) (fun i => 0 - (intOf i).toNat)
    case atStart => exact ⟨0, rfl, by omega⟩
    case round =>
      obtain ⟨k, rfl, hk⟩ := hrel
      have hk0 : ¬ ((k : Int) < 0) := by omega
      go_wp2_with go_in
      go_ret
      exact ⟨rfl, HW5.out⟩
  | some cs =>
    obtain ⟨C, Sv⟩ := cs
    have hJ := HDJ.out.1 C Sv rfl
    subst hJ
    clear HDJ
    go_wp2_with fail
    refine HCD.out.mono ?_
    rintro e3 w3 ⟨_, hd3, hb3⟩
    obtain ⟨v3, he3, ho3, hl3⟩ := hd3 C Sv rfl
    subst he3
    obtain ⟨a3, c3, rfl, _, _⟩ := own_val ho3
    have HO3 := hid ho3
    have HL3 := hid hl3
    have HY3 := hide (HY2.out.below hb3)
    have HW3 : Hid (Below w.heap.size w w3) := HW2.out.trans (hb3.mono HW2.out.size)
    have HT3 := hid (text0_any w.heap.size w.heap.size R (.slice aos R.stops.length caps) (.slice aor R.roads.length capr) w3 HOK.out.nice HY3.out.stops HY3.out.roads)
    unfold inst at HT3
    clear y0 y1 y2 y3 y4 y5 y6 yf yl
    obtain ⟨y0, y1, y2, y3, y4, y5, y6, yf, yl⟩ := y_cells HY3.out
    clear hb3 HCD HY2 hd3 ho3 hl3
    go_wp2_with fail
    refine HT3.out.mono ?_
    rintro e4 w4 ⟨rfl, hb4⟩
    have HW4 : Hid (Below w.heap.size w w4) := HW3.out.trans (hb4.mono HW3.out.size)
    have HO4 := hid (own_below HO3.out hb4)
    clear hb4 HT3 HY3 y0 y1 y2 y3 y4 y5 y6 yf yl HO3
    go_wp2_with fail
    refine (HJU.out _).mono ?_
    rintro e5 w5 ⟨v5, rfl, _, hj5, hb5⟩
    obtain ⟨ho5, _, _⟩ := hj5 Sv rfl
    obtain ⟨a5, c5, rfl, _, _⟩ := own_val ho5
    have HW5 : Hid (Below w.heap.size w w5) := HW4.out.trans (hb5.mono HW4.out.size)
    have HR5 := hid (row_read ho5 HL3.out)
    have HR3 := hid (row_read (own_below HO4.out hb5) HL3.out)
    clear hj5 hb5 HJU ho5 HO4
    go_wp2_with go_in
    go_loopw [14] (fun i wr => ∃ k : Nat, i = .int .i64 k ∧ k ≤ R.stops.length ∧ Hid (Below w5.heap.size w5 wr)) (fun i _ => R.stops.length - (intOf i).toNat)
    case atStart => exact ⟨0, rfl, by omega, by first | exact Below.refl _ _ | exact (Below.refl _ _).drew⟩
    case round =>
      obtain ⟨k, rfl, hk, HB⟩ := hrel
      by_cases hlt : k < R.stops.length
      · obtain ⟨g5, rfl, hg5, x5⟩ := HR5.out k hlt
        obtain ⟨g3, rfl, hg3, x3⟩ := HR3.out k hlt
        have x5 : wr.cell? ⟨g5, k, none⟩ = _ := (HB.out.cell (by exact hg5)).trans x5
        have x3 : wr.cell? ⟨g3, k, none⟩ = _ := (HB.out.cell (by exact hg3)).trans x3
        have h5w : g5 < wr.heap.size := Nat.lt_of_lt_of_le hg5 HB.out.size
        have h3w : g3 < wr.heap.size := Nat.lt_of_lt_of_le hg3 HB.out.size
        generalize Sv.getD k 0 = z at *
        have ik : (0 : Int) ≤ (k : Int) := by omega
        have jk : (k : Int) < (R.stops.length : Int) := by omega
        have e0 : (z != z) = false := by simp
        go_wp2_with fail
        go_region_held3 (fun w' => w'.cell? ⟨g5, k, none⟩ = some (.int .i64 z) ∧ w'.cell? ⟨g3, k, none⟩ = some (.int .i64 z)) (go_keep) (fail)
        go_wp2
        go_roundw
        case rel => exact ⟨k + 1, by go_num, by omega, by first | exact HB.out | exact HB.out.drew⟩
        case measure => simp [intOf]; omega
      · go_wp2_with go_in
        go_ret
        exact ⟨rfl, HW5.out.trans (HB.out.mono HW5.out.size)⟩
end Go.Proofs.Ytebinaopncclgaa
namespace Go.Proofs.Ytebinaopncclgaa

theorem count_grow (p q : Nat → Bool) (h : ∀ x, p x = true → q x = true) : ∀ L : List Nat, L.countP p ≤ L.countP q ∧ (L.countP p = L.countP q → ∀ x ∈ L, p x = q x) := by
  intro L
  induction L with
  | nil => exact ⟨Nat.le_refl _, fun _ x hx => absurd hx (by simp)⟩
  | cons y L ih =>
    have hy := h y
    rw [List.countP_cons, List.countP_cons]
    cases hp : p y <;> cases hq : q y
    · simp only [Bool.false_eq_true, if_false, Nat.add_zero]
      refine ⟨ih.1, fun e x hx => ?_⟩
      rcases List.mem_cons.1 hx with rfl | hx
      · rw [hp, hq]
      · exact ih.2 e x hx
    · simp only [Bool.false_eq_true, if_false, if_true, Nat.add_zero]
      exact ⟨by have := ih.1; omega, fun e => by have := ih.1; omega⟩
    · rw [hp, hq] at hy; exact absurd (hy rfl) (by simp)
    · simp only [if_true]
      refine ⟨by have := ih.1; omega, fun e x hx => ?_⟩
      rcases List.mem_cons.1 hx with rfl | hx
      · rw [hp, hq]
      · exact ih.2 (by omega) x hx
theorem grow_stop (c : Nat → Nat) (m : Nat) (h0 : 1 ≤ c 0) (hm : ∀ k, c k ≤ c (k + 1)) (hb : ∀ k, c k ≤ m) : ∃ k, k < m ∧ c k = c (k + 1) := by
  false_or_by_contra
  rename_i hno
  have key : ∀ k, k ≤ m → k + 1 ≤ c k := by
    intro k
    induction k with
    | zero => intro _; exact h0
    | succ k ih =>
      intro hk
      have h1 := ih (by omega)
      have h2 := hm k
      have h3 : c k ≠ c (k + 1) := fun e => hno ⟨k, by omega, e⟩
      omega
  have := key m (Nat.le_refl _)
  have := hb m
  omega
theorem fw_short {N : Nat} {F : Nat → Nat → Int} (h : Lens N 10000 F) (hN : N ≤ 12) {a b : Nat} (ha : a < N) (hb : b < N) : fwF F N a b ≤ 110000 := by
  have hl := fw_lens12 h hN (Nat.le_refl N)
  have htri := fw_tri h hN N (Nat.le_refl _)
  have hle := fw_le h hN N (Nat.le_refl _)
  let E := fun x => ex (fwF F N a x)
  let S : Nat → Nat → Bool := fun k x => decide (E x ≤ (k : Int) * 10000)
  obtain ⟨k, hk, hc⟩ := grow_stop (fun k => (List.range N).countP (S k)) N
    (by
      apply List.countP_pos_iff.2
      refine ⟨a, by simpa using ha, ?_⟩
      have h0 : fwF F N a a = 0 := hl.1 a ha
      show decide (ex (fwF F N a a) ≤ ((0 : Nat) : Int) * 10000) = true
      rw [h0]; decide)
    (fun k => (count_grow (S k) (S (k + 1)) (fun x hx => by
      have h1 : E x ≤ (k : Int) * 10000 := by simpa [S] using hx
      show decide _ = true
      rw [decide_eq_true_eq]; push_cast; omega) _).1)
    (fun k => by have := List.countP_le_length (p := S k) (l := List.range N); simpa using this)
  have hsame := (count_grow (S k) (S (k + 1)) (fun x hx => by
      have h1 : E x ≤ (k : Int) * 10000 := by simpa [S] using hx
      show decide _ = true
      rw [decide_eq_true_eq]; push_cast; omega) (List.range N)).2 hc
  have hin : ∀ x, x < N → E x ≤ ((k + 1 : Nat) : Int) * 10000 → E x ≤ (k : Int) * 10000 := fun x hx h1 => by
    have h2 := hsame x (by simpa using hx)
    have h3 : S (k + 1) x = true := by show decide _ = true; rw [decide_eq_true_eq]; exact h1
    rw [h3] at h2
    simpa [S] using h2
  have hcl : ∀ x y, x < N → y < N → E x ≤ (k : Int) * 10000 → ¬ E y ≤ (k : Int) * 10000 → F x y = -1 := fun x y hx hy h1 h2 => by
    false_or_by_contra
    rename_i hne
    have h3 := h.2 x y hx hy
    have h4 := htri a y x ha hy hx
    have h5 := hle x y hx hy
    have h6 : ex (F x y) = F x y := by unfold ex; rw [if_neg hne]
    have h7 : E y ≤ E x + ex (fwF F N x y) := h4
    apply h2
    apply hin y hy
    push_cast
    omega
  have hbase := h.2
  let M : Nat → Nat → Int := fun x y => if E x ≤ (k : Int) * 10000 ∧ ¬ E y ≤ (k : Int) * 10000 then 1000000000 else 0
  have hg := fw_greatest (M := M) h hN (fun x y c _ _ _ => by
      show M x y ≤ M x c + M c y
      dsimp only [M]
      by_cases h1 : E x ≤ (k : Int) * 10000 <;> by_cases h2 : E y ≤ (k : Int) * 10000 <;> by_cases h3 : E c ≤ (k : Int) * 10000 <;> simp [h1, h2, h3])
    (fun x y hx hy => by
      show M x y ≤ _
      dsimp only [M]
      split
      · rename_i hh
        rw [hcl x y hx hy hh.1 hh.2]; decide
      · exact (ex_range (h.2 x y hx hy) (by decide)).1)
  by_cases hab : E b ≤ (k : Int) * 10000
  · have h1 := hl.2 a b ha hb
    have h2 := ex_range h1 (by decide)
    by_cases e : fwF F N a b = -1
    · omega
    · have h3 := h2.2.2.1 e
      have h4 : E b = fwF F N a b := h3
      omega
  · have h1 := hg N (Nat.le_refl _) a b ha hb
    have h2 : M a b = 1000000000 := by
      dsimp only [M]
      have h0 : fwF F N a a = 0 := hl.1 a ha
      have : E a = 0 := by show ex (fwF F N a a) = 0; rw [h0]; rfl
      rw [if_pos ⟨by rw [this]; omega, hab⟩]
    rw [h2] at h1
    have h3 := hl.2 a b ha hb
    by_cases e : fwF F N a b = -1
    · omega
    · have := (ex_range h3 (by decide)).2.2.1 e
      omega
theorem site_short {r : Rd} (h : RdOk r) : ∀ a b, a < r.stops.length + 1 → b < r.stops.length + 1 → -1 ≤ siteD r a b ∧ siteD r a b ≤ 110000 := by
  intro a b ha hb
  have hhd := headOk_iff.1 h.head
  obtain ⟨N, hN⟩ : ∃ N : Nat, r.nodes = N := ⟨r.nodes.toNat, by omega⟩
  have h1 := siteN_lt h hN ha
  have h2 := siteN_lt h hN hb
  exact ⟨(way_range h (by omega) (by omega)).1, fw_short (ok_lens h) (ok_nodes h).2 (by omega) (by omega)⟩
end Go.Proofs.Ytebinaopncclgaa
namespace Go.Proofs.Ytebinaopncclgaa

def sN (c : UInt8) : Nat := (chB c).toNat - 48
theorem dB_sN {n : Nat} {c : UInt8} (h : c = 47 ∨ (49 ≤ c.toNat ∧ c.toNat ≤ 48 + n)) : dB (sN c) = chB c := by
  unfold dB sN chB
  rcases h with rfl | h
  · rfl
  · rw [if_neg (by rintro rfl; have : (47 : UInt8).toNat = 47 := rfl; omega), show 48 + (c.toNat - 48) = c.toNat by omega]; simp
theorem nbr_two : ∀ (l : List Nat) (x y : Nat), nbr (l ++ [x] ++ [y]) = nbr (l ++ [x]) ++ [(x, y)] := by
  intro l x y
  induction l with
  | nil => rfl
  | cons a l ih =>
    cases l with
    | nil => rfl
    | cons b l =>
      show (a, b) :: nbr (b :: l ++ [x] ++ [y]) = (a, b) :: nbr (b :: l ++ [x]) ++ [(x, y)]
      rw [ih]; rfl
theorem lg_nbr {n : Nat} : ∀ (m : Nat) (l : List UInt8), l.length = m → (∀ c ∈ l, c = 47 ∨ (49 ≤ c.toNat ∧ c.toNat ≤ 48 + n)) → ∃ p x, 0 :: l.map sN = p ++ [x] ∧ (lgGo l).1 = arcsB (nbr (p ++ [x])) ∧ (lgGo l).2 = dB x := by
  intro m
  induction m with
  | zero =>
    intro l hl _
    have : l = [] := List.eq_nil_of_length_eq_zero hl
    subst this
    exact ⟨[], 0, rfl, rfl, rfl⟩
  | succ m ih =>
    intro l hl hb
    have hne : l ≠ [] := fun e => by rw [e] at hl; simp at hl
    have hs := List.dropLast_concat_getLast hne
    have hc := hb (l.getLast hne) (List.getLast_mem hne)
    obtain ⟨p, x, h1, h2, h3⟩ := ih l.dropLast (by simp [hl]) (fun c hc => hb c (List.dropLast_subset l hc))
    generalize l.getLast hne = c at *
    generalize l.dropLast = t at *
    subst hs
    refine ⟨p ++ [x], sN c, ?_, ?_, ?_⟩
    · rw [List.map_append, ← List.cons_append, h1]; rfl
    · rw [lgGo_snoc, h2, h3, nbr_two, arcsB_app, ← dB_sN hc]; simp [arcsB, arcB]
    · rw [lgGo_snoc, dB_sN hc]
theorem legs_nbr {n : Nat} {l : List UInt8} (hn : l ≠ []) (hb : ∀ c ∈ l, c = 47 ∨ (49 ≤ c.toNat ∧ c.toNat ≤ 48 + n)) : legsS l = arcsB (nbr (0 :: (l.map sN ++ [0]))) := by
  obtain ⟨p, x, h1, h2, h3⟩ := lg_nbr l.length l rfl hb
  unfold legsS
  rw [if_neg hn, h2, h3, ← List.cons_append, h1, nbr_two, arcsB_app]
  simp [arcsB, arcB]; rfl
theorem nbr_zero : ∀ (a b : List Nat) (x : Nat), nbr (a ++ x :: b) = nbr (a ++ [x]) ++ nbr (x :: b) := by
  intro a
  induction a with
  | nil => intro b x; simp [nbr]
  | cons y a ih =>
    intro b x
    cases a with
    | nil => cases b <;> simp [nbr]
    | cons z a =>
      show (y, z) :: nbr (z :: a ++ x :: b) = (y, z) :: nbr (z :: a ++ [x]) ++ _
      rw [ih]; rfl
theorem split_arcs : ∀ (m : Nat) (l : List UInt8) (Z : List Nat), l.length = m → nbr (0 :: (l.map sN ++ Z)) = arcsQ ((spl 47 l).1.map digN) ++ nbr (0 :: (digN (spl 47 l).2 ++ Z)) := by
  intro m
  induction m with
  | zero =>
    intro l Z hl
    have : l = [] := List.eq_nil_of_length_eq_zero hl
    subst this
    simp [spl, arcsQ, digN]
  | succ m ih =>
    intro l Z hl
    have hne : l ≠ [] := fun e => by rw [e] at hl; simp at hl
    have hs := List.dropLast_concat_getLast hne
    have h1 := fun Z => ih l.dropLast Z (by simp [hl])
    generalize l.getLast hne = c at *
    generalize l.dropLast = t at *
    subst hs
    have hsp : spl 47 (t ++ [c]) = stepL 47 (spl 47 t) c := by simp [spl]
    rw [hsp, List.map_append, List.append_assoc]
    show nbr (0 :: (t.map sN ++ sN c :: Z)) = _
    rw [h1]
    unfold stepL
    by_cases h47 : c = 47
    · rw [if_pos h47, h47]
      show _ ++ nbr (0 :: digN (spl 47 t).2 ++ 0 :: Z) = arcsQ (List.map digN ((spl 47 t).1 ++ [(spl 47 t).2])) ++ nbr (0 :: Z)
      rw [nbr_zero, ← List.append_assoc]
      congr 1
      rw [List.map_append]
      unfold arcsQ
      rw [List.map_append, List.flatten_append]
      congr 1
      simp [arcs_nbr]
    · rw [if_neg h47]
      have e : sN c = c.toNat - 48 := by unfold sN chB; rw [if_neg h47]
      rw [e]
      simp [digN]
theorem legs_arcs {n : Nat} {l : List UInt8} (h : isPlanS n l = true) : legsS l = arcsB (arcsQ (routesN l)) := by
  by_cases hn : l = []
  · subst hn; rfl
  · have hb : ∀ c ∈ l, c = 47 ∨ (49 ≤ c.toNat ∧ c.toNat ≤ 48 + n) := fun c hc => by
      rcases plan_bytes h c hc with h | h
      · exact .inl h
      · exact .inr (by omega)
    rw [legs_nbr hn hb, split_arcs l.length l [0] rfl]
    unfold routesN
    rw [if_neg hn]
    unfold splitB
    congr 1
    rw [List.map_append]
    unfold arcsQ
    rw [List.map_append, List.flatten_append]
    congr 1
    simp [arcs_nbr]
end Go.Proofs.Ytebinaopncclgaa
namespace Go.Proofs.Ytebinaopncclgaa
open Go.RowKit Go.IntWalk

theorem line_le (n i : Nat) : lineN n i < n + 1 := by
  unfold lineN; split <;> omega
theorem cell_fine {r : Rd} (h : RdOk r) (T : Nat → Nat → Int) (N : Nat) : CellOk (r.stops.length + N) (fun i j => cellS r.stops.length T (siteD r) (lineN r.stops.length i) (lineN r.stops.length j)) := fun i j _ _ => by
  have := site_short h _ _ (line_le _ i) (line_le _ j)
  show -1 ≤ cellS _ _ _ _ _ ∧ cellS _ _ _ _ _ ≤ 200000
  unfold cellS
  split
  · omega
  · split <;> omega
/- the cells under two lists of arcs -/
theorem ucells (r : Rd) (F B : List (Nat × Nat)) (W : World) (hok : RdOk r) (hF : F.Nodup) (hB : B.Nodup) (rF : ∀ p ∈ F, p.1 ≤ r.stops.length ∧ p.2 ≤ r.stops.length ∧ p.1 ≠ p.2) (rB : ∀ p ∈ B, p.1 ≤ r.stops.length ∧ p.2 ≤ r.stops.length ∧ p.1 ≠ p.2) (hd : ∀ p ∈ F, p ∉ B) (lF : F.length ≤ 1000) (lB : B.length ≤ 1000) :
    Calls Try.prog 21 #[.string ⟨(textL r).toArray⟩, .string ⟨(arcsB F).toArray⟩, .string ⟨(arcsB B).toArray⟩] W fun e w' => ∃ (v : Value) (T : Nat → Nat → Int), e = .returned (.tuple #[v, .int .i64 0]) ∧ GridO w' W.heap.size v (r.stops.length + r.vans.toNat) (fun i j => cellS r.stops.length T (siteD r) (lineN r.stops.length i) (lineN r.stops.length j)) ∧ (∀ a b, T a b = 1 ↔ (a, b) ∈ F) ∧ (∀ a b, T a b = 2 ↔ (a, b) ∈ B) ∧ (∀ a, T a a = 0) ∧ Below W.heap.size W w' := by
  have hns := hok.nstops
  obtain ⟨T, h1, h2, h3, h4⟩ := read_text (n := r.stops.length) (by omega) hF hB rF rB hd
  have hp : parseS (⟨(textL r).toArray⟩ : ByteArray).data.toList = (r, 0, 0) := by show parseS (textL r).toArray.toList = _; simpa using parse_text hok
  have hl : (⟨(textL r).toArray⟩ : ByteArray).size ≤ maxLen := by have := textL_length hok; show (textL r).toArray.size ≤ _; unfold maxLen; simp; omega
  have hf : (⟨(arcsB F).toArray⟩ : ByteArray).size ≤ maxLen := by have := arcsB_length F; show (arcsB F).toArray.size ≤ _; unfold maxLen; simp; omega
  have hb : (⟨(arcsB B).toArray⟩ : ByteArray).size ≤ maxLen := by have := arcsB_length B; show (arcsB B).toArray.size ≤ _; unfold maxLen; simp; omega
  have h := dcells_of ⟨(textL r).toArray⟩ ⟨(arcsB F).toArray⟩ ⟨(arcsB B).toArray⟩ W hl hf hb (fun _ => by rw [hp]; exact hok)
  rw [hp] at h
  have e1 : (⟨(arcsB F).toArray⟩ : ByteArray).data.toList = arcsB F := by simp
  have e2 : (⟨(arcsB B).toArray⟩ : ByteArray).data.toList = arcsB B := by simp
  rw [e1, e2] at h
  refine h.mono ?_
  rintro e w' ⟨v, rfl, _, hg, hbl⟩
  refine ⟨v, T, ?_, hg T rfl h1, h2, h3, h4, hbl⟩
  unfold cellsE
  dsimp only
  rw [if_neg (by omega), if_neg (by rw [h1]; simp)]
end Go.Proofs.Ytebinaopncclgaa
