/- Walks of the statements: one step: Judge. -/
import Derived.Test.YtebinaopncclgaaGreatDoorHoldR
import Derived.Test.YtebinaopncclgaaGreatDoorJCall
import Derived.Test.YtebinaopncclgaaGreatDoorDJudge
namespace Go.Proofs.YtebinaopncclgaaGreatDoor
open Go.RowKit Go.IntWalk

theorem judge_row {w w' : World} {n : Nat} {J : Int × Option (List Int) × Int} {e : Ending} (h : JudgeLeft w n J e w') : ∃ ao k c zs, e = .returned (.tuple #[.int .i64 J.1, .slice ao k c, .int .i64 J.2.2]) ∧ w'.ownsRow w.heap.size 3 1 (.slice ao k c) k (ints zs) ∧ zs.length = k ∧ k ≤ n ∧ zs = J.2.1.getD [] ∧ Below w.heap.size w w' := by
  obtain ⟨v, rfl, h1, h2, h3⟩ := h
  cases hj : J.2.1 with
  | none =>
    rw [h1 hj]
    exact ⟨none, 0, 0, [], rfl, World.ownsRow_nil _ _ _ _, rfl, Nat.zero_le _, rfl, h3⟩
  | some S =>
    obtain ⟨k1, k2, _⟩ := h2 S hj
    obtain ⟨ao, c, hv, _, _⟩ := own_val k1
    subst hv
    exact ⟨ao, n, c, S, rfl, k1, k2, Nat.le_refl _, rfl, h3⟩
theorem judgeS_range (r : Rd) (D : Nat → Nat → Int) (l : List UInt8) : 0 ≤ (judgeS r D l).2.2 ∧ (judgeS r D l).2.2 ≤ 11 := by
  have hf : 0 ≤ textFaultS r.stops.length l ∧ textFaultS r.stops.length l ≤ 7 := by
    unfold textFaultS
    split
    · simp
    · split
      · simp
      · split <;> simp
  unfold judgeS
  split
  · exact ⟨hf.1, by show textFaultS _ _ ≤ _; omega⟩
  · split
    · simp
    · split
      · simp
      · split
        · simp
        · split <;> simp
theorem judged_range (s l : List UInt8) : -9223372036854775808 ≤ (judgedS (parseS s) l).2.2 ∧ (judgedS (parseS s) l).2.2 ≤ 9223372036854775807 := by
  have h1 := parse_range s
  unfold judgedS
  split
  · exact h1
  · have := judgeS_range (parseS s).1 (siteD (parseS s).1) l; omega

theorem op_t {o : OpV} {W : World} {b : Nat} (h : W.heap[b]? = some (.cells o.vals 39 (0, 0))) : W.cell? ⟨b, 3, none⟩ = some (.string o.t) := by rw [cell_of_row _ _ _ _ _ _ h]; rfl
theorem rows_read {w : World} {B n : Nat} {ao : Option Addr} {c : Nat} {zs : List Int} (h : w.ownsRow B 3 1 (.slice ao n c) n (ints zs)) (hl : zs.length = n) : ∀ j, j < n → ∃ g, ao = some ⟨g, 0, none⟩ ∧ g < w.heap.size ∧ w.cell? ⟨g, j, none⟩ = some (.int .i64 (zs.getD j 0)) := by
  intro j hj
  obtain ⟨ao', c', hv, h1, h2⟩ := own_val h
  cases hv
  cases ao with
  | none => exact absurd (h2 rfl) (by omega)
  | some a =>
    obtain ⟨g, rfl, _, hg⟩ := h1 a rfl
    refine ⟨g, rfl, hg, ?_⟩
    rw [h.cellAt j (by omega)]
    simp [ints, List.getD_eq_getElem?_getD, List.getElem?_eq_getElem (show j < zs.length by omega)]

set_option maxRecDepth 100000 in
set_option maxHeartbeats 4000000 in
theorem inst_judge (bb hb m : Nat) (o : OpV) (w : World) (ho : o.k = 4) (hos : o.s.size ≤ maxLen) (hot : o.t.size ≤ 2000000) (h : HoldInv w bb hb m) (hm : m ≤ 703687441776) (hbb : bb ≤ w.heap.size) :
    Calls Tryz.prog 14 #[.pointer (some ⟨hb, 0, none⟩), .agg o.vals] w fun e w' => e = .returned (.bool true) ∧ HoldInv w' bb hb (m + 1) ∧ Below bb w w' := by
  obtain ⟨vi, vr, vs, vd, vn, I, R, S, D, N, h1, h2, h3, h4, h5, h6, h7⟩ := h
  have HH := hid h1
  have hbl : hb < w.heap.size := (Array.getElem?_eq_some_iff.1 h1.box).1
  have HP : Hid (∀ W, Calls Tryz.prog 35 #[.string o.s, .string o.t] W (JudgeLeft W (parseS o.s.data.toList).1.stops.length (judgedS (parseS o.s.data.toList) o.t.data.toList))) := fun W => djudge_any o.s o.t W hos (by unfold maxLen; omega)
  have HQ : Hid (∀ W, Calls Tryz.prog 30 #[.string o.s] W (GroundLeft W (parseS o.s.data.toList))) := fun W => on_any o.s W hos
  have HFN := hid (parse_fine o.s.data.toList)
  have hxr := parse_range o.s.data.toList
  have hjr := judged_range o.s.data.toList o.t.data.toList
  have HOK : Hid ((parseS o.s.data.toList).2.2 = 0 → RdOk (parseS o.s.data.toList).1) := parse_rdok
  have HOB := hid (op_box o w)
  have HGJ : Hid (∀ (vs vr vw : Value) (W : World), (parseS o.s.data.toList).2.2 = 0 → StR W vs (parseS o.s.data.toList).1 → SqR W vw ((parseS o.s.data.toList).1.stops.length + 1) (siteD (parseS o.s.data.toList).1) → (∃ ao n c, vr = .slice ao n c) → Calls Tryz.prog 36 #[.agg (ground (parseS o.s.data.toList).1 vs vr vw), .string o.t] W (JudgeLeft W (parseS o.s.data.toList).1.stops.length (judgedS (parseS o.s.data.toList) o.t.data.toList))) := fun vs vr vw W h0 hs hq hv => by
    have hj : judgedS (parseS o.s.data.toList) o.t.data.toList = judgeS (parseS o.s.data.toList).1 (siteD (parseS o.s.data.toList).1) o.t.data.toList := by unfold judgedS; rw [if_neg (by rw [h0]; simp)]
    rw [hj]
    exact gjudge_any _ _ o.t vs vr vw W (HOK.out h0) hs hq (site_range (HOK.out h0)) hot hv
  have HJE : Hid ((parseS o.s.data.toList).2.2 ≠ 0 → judgedS (parseS o.s.data.toList) o.t.data.toList = (0, none, (parseS o.s.data.toList).2.2)) := fun h => by unfold judgedS; rw [if_pos h]
  generalize judgedS (parseS o.s.data.toList) o.t.data.toList = J at *
  generalize parseS o.s.data.toList = x at *
  obtain ⟨r, nat, er⟩ := x
  have hst : r.stops.length ≤ 7 := HFN.out.1
  unfold OpV.vals
  rw [ho]
  clear h1
  go_enter Tryz.func14, Tryz.ntmps14
  go_wp2_with fail
  rw [← ho]
  refine (HP.out _).mono ?_
  intro e1 w1 hj1
  obtain ⟨ao, k, c, zs, rfl, hown1, hzl, hk, hzs, hb1⟩ := judge_row hj1
  have hws : w.heap.size + 1 ≤ w1.heap.size := by have := hb1.size; simpa using this
  have hob1 := op_below HOB.out hb1
  obtain ⟨o2, hol⟩ := op_s hob1
  have o3 := op_t hob1
  have HOB1 := hid hob1
  have HB1 : Hid (Below w.heap.size w w1) := (below1 w _).trans (hb1.mono (by simp))
  have HO1 : Hid (w1.ownsRow (w.heap.size + 1) 3 1 (.slice ao k c) k (ints zs)) := own_base hown1 (by simp)
  have HZS := hid hzs
  clear hj1 hown1 hb1 hob1 HP HOB hzs
  go_wp2_with fail
  refine (HQ.out _).mono ?_
  rintro e2 w2 ⟨us, ur, uw, rfl, hos2, hor2, hn2, hg2, hb2⟩
  dsimp only at hn2 hg2 hos2 hor2
  obtain ⟨aus, cus, hv2, _, _⟩ := own_val hos2
  obtain ⟨aur, cur, hv3, _, _⟩ := own_val hor2
  subst hv2 hv3
  have HB2 := hid hb2
  have hol2 := Nat.lt_of_lt_of_le hol hb2.size
  have o32 : w2.cell? ⟨w.heap.size, 3, none⟩ = some (.string o.t) := (hb2.cell (by exact hol)).trans o3
  by_cases h0 : er = 0
  · subst h0
    have hst2 := StR.own hos2 (HOK.out rfl).shape.stops
    have hsq2 : SqR w2 uw (r.stops.length + 1) (siteD r) := by
      obtain ⟨us', hu1, hu2⟩ := hg2 rfl
      exact hu2.sq hu1 (by omega)
    obtain ⟨auw, cuw, huw, _⟩ := hsq2
    subst huw
    have hsq2 : SqR w2 (.slice auw (r.stops.length + 1 : Nat) cuw) (r.stops.length + 1) (siteD r) := by
      obtain ⟨us', hu1, hu2⟩ := hg2 rfl
      exact hu2.sq hu1 (by omega)
    have HC : Hid (∀ W, Below w2.heap.size w2 W → Calls Tryz.prog 36 #[.agg (ground r (.slice aus r.stops.length cus) (.slice aur r.roads.length cur) (.slice auw (r.stops.length + 1 : Nat) cuw)), .string o.t] W (JudgeLeft W r.stops.length J)) := fun W hW => HGJ.out _ _ _ W rfl (hst2.below hW) (hsq2.below hW) ⟨_, _, _, rfl⟩
    clear hos2 hor2 hn2 hg2 hb2 HQ hst2 hsq2 HGJ o2 o3 HJE
    unfold ground at *
    go_wp2_with fail
    refine (HC.out _ (below1 w2 _)).mono ?_
    intro e3 w3 hj3
    obtain ⟨ao3, k3, c3, zs3, rfl, hown3, hzl3, hk3, hzs3, hb3⟩ := judge_row hj3
    have hzz : zs3 = zs := hzs3.trans HZS.out.symm
    subst hzz
    have hkk : k3 = k := by rw [← hzl3, hzl]
    subst hkk
    have hb23 : Below w2.heap.size w2 w3 := (below1 w2 _).trans (hb3.mono (by simp))
    have HB13 : Hid (Below w1.heap.size w1 w3) := HB2.out.trans (hb23.mono HB2.out.size)
    have HS := hid (sameInts_any k3 c c3 ao ao3 (fun j => zs3.getD j 0) w3 (by omega) (rows_read (own_below HO1.out HB13.out) hzl) (rows_read hown3 hzl))
    clear hj3 hown3 hzl3 hk3 hzs3 hb3 hb23 HC HB2 hzl HZS
    go_wp2_with fail
    refine HS.out.mono ?_
    rintro e4 w4 ⟨rfl, hb4⟩
    have hb04 : Below w.heap.size w w4 := HB1.out.trans ((HB13.out.trans (hb4.mono HB13.out.size)).mono HB1.out.size)
    have hb14 : Below w1.heap.size w1 w4 := HB13.out.trans (hb4.mono HB13.out.size)
    have hs1 := HB1.out.size
    have hs4 := hb14.size
    have hcon := list_walk bb w.heap.size hb (w.heap.size + 1) k3 vi vr vs vd vn I R S D N (.slice ao k3 c) (ints zs3) w4 (HH.out.below hb04 (Nat.le_refl _)) (by omega) (by omega) (by omega) h7 (own_below HO1.out hb14) (fun i hi g c' e hc he => by
      obtain ⟨ao', c'', e1, _, e2⟩ := HH.out.fi i hi
      rw [e] at e1
      cases e1
      obtain ⟨g', _, e3, e4, _⟩ := e2 hc
      cases e3
      have := (HO1.out.lt _ he).1
      omega)
    have HC4 := hid hcon
    have HB04 := hid hb04
    clear hcon hb04 hb14 hb4 HO1 HB13
    go_wp2_with fail
    refine HC4.out.mono ?_
    rintro e5 w5 ⟨vi', s1, rfl, hh5, hs5, _, _, _, _, hb5⟩
    have HI5 : Hid (HoldInv w5 bb hb (m + 1)) := ⟨vi', vr, vs, vd, vn, I ++ [s1], R, S, D, N, hh5, h2, by simp; omega, by omega, by omega, by omega, hs5⟩
    have HB5 : Hid (Below bb w w5) := (HB04.out.mono hbb).trans (hb5.mono (by omega))
    clear hh5 hs5 hb5 HC4
    go_wp2_with (go_at_call 19; refine (num_any _ _ hjr).mono ?_; rintro e6 w6 ⟨rfl, rfl⟩)
    go_ret
    exact ⟨ret_bool (by simp), HI5.out, HB5.out⟩
  · have hne : (er != 0) = true := by simp [h0]
    have hne2 : (er == 0) = false := by simp [h0]
    have hJ := HJE.out h0
    have huw := hn2 h0
    subst huw
    have hz0 : zs = [] := by rw [HZS.out, hJ]; rfl
    subst hz0
    have hk0 : k = 0 := hzl.symm
    subst hk0
    have HB13 := HB2
    have HS : Hid (∀ W, Calls Tryz.prog 37 #[.slice ao (0 : Nat) c, .slice none (0 : Nat) (0 : Nat)] W _) := fun W => sameInts_any 0 c 0 ao none (fun _ => 0) W (by omega) (fun j hj => absurd hj (by omega)) (fun j hj => absurd hj (by omega))
    clear hos2 hor2 hn2 hg2 hb2 HQ HGJ o2 o3 HZS hzl
    rw [hJ] at hjr
    rw [hJ]
    clear hJ HJE
    unfold ground
    go_wp2_with fail
    refine (HS.out _).mono ?_
    rintro e4 w4 ⟨rfl, hb4'⟩
    have hb4 : Below w2.heap.size w2 w4 := (below1 w2 _).trans (hb4'.mono (by simp))
    clear hb4'
    have hb04 : Below w.heap.size w w4 := HB1.out.trans ((HB13.out.trans (hb4.mono HB13.out.size)).mono HB1.out.size)
    have hb14 : Below w1.heap.size w1 w4 := HB13.out.trans (hb4.mono HB13.out.size)
    have hs1 := HB1.out.size
    have hs4 := hb14.size
    have hcon := list_walk bb w.heap.size hb (w.heap.size + 1) 0 vi vr vs vd vn I R S D N (.slice ao 0 c) (ints []) w4 (HH.out.below hb04 (Nat.le_refl _)) (by omega) (by omega) (by omega) h7 (own_below HO1.out hb14) (fun i hi g c' e hc he => by
      obtain ⟨ao', c'', e1, _, e2⟩ := HH.out.fi i hi
      rw [e] at e1
      cases e1
      obtain ⟨g', _, e3, e4, _⟩ := e2 hc
      cases e3
      have := (HO1.out.lt _ he).1
      omega)
    have HC4 := hid hcon
    have HB04 := hid hb04
    clear hcon hb04 hb14 hb4 HO1 HB13
    go_wp2_with fail
    refine HC4.out.mono ?_
    rintro e5 w5 ⟨vi', s1, rfl, hh5, hs5, _, _, _, _, hb5⟩
    have HI5 : Hid (HoldInv w5 bb hb (m + 1)) := ⟨vi', vr, vs, vd, vn, I ++ [s1], R, S, D, N, hh5, h2, by simp; omega, by omega, by omega, by omega, hs5⟩
    have HB5 : Hid (Below bb w w5) := (HB04.out.mono hbb).trans (hb5.mono (by omega))
    clear hh5 hs5 hb5 HC4
    go_wp2_with (go_at_call 19; refine (num_any _ _ hjr).mono ?_; rintro e6 w6 ⟨rfl, rfl⟩)
    go_ret
    exact ⟨ret_bool (by simp), HI5.out, HB5.out⟩

set_option maxRecDepth 100000 in
set_option maxHeartbeats 1000000 in
theorem plays_judge (w0 : World) (hb : Nat) (o : OpV) (ho : o.k = 4) (hos : o.s.size ≤ maxLen) (hot : o.t.size ≤ 2000000) : Plays w0 hb o := by
  intro w m h hm hw0
  have hbb : w0.heap.size ≤ w.heap.size := hw0.size
  generalize w0.heap.size = bb at *
  have HC := hid (inst_judge bb hb m o (w.alloc (.cells o.vals 39)) ho hos hot (h.below (below1 w _)) hm (by simp; omega))
  unfold OpV.vals at HC ⊢
  rw [ho] at HC ⊢
  go_enter Tryz.func11, Tryz.ntmps11
  go_wp2_with fail
  refine HC.out.mono ?_
  rintro e2 w2 ⟨rfl, hi2, hb2⟩
  have HI2 := hid hi2
  have HB2 : Hid (Below bb w w2) := ((below1 w _).mono hbb).trans hb2
  clear hi2 hb2 HC
  go_wp2
  go_ret
  exact ⟨rfl, HI2.out, HB2.out⟩

set_option maxRecDepth 100000 in
set_option maxHeartbeats 1000000 in
theorem judges_walk (ao : Option Addr) (n c : Nat) (ops : Nat → OpV) (w : World) (hn : n ≤ 703687441776) (hs : ScriptAt w ao n ops) (hos : ∀ i, i < n → (ops i).s.size ≤ maxLen ∧ (ops i).t.size ≤ 2000000) :
    Calls Tryz.prog 6 #[.slice ao n c] w fun e w' => e = .returned (.bool true) ∧ Below w.heap.size w w' := by
  have HC := hid (upto_walk 4 4 ao n c ops w hn hs (fun i hi h1 h2 => plays_judge _ _ _ (by omega) (hos i hi).1 (hos i hi).2))
  clear hs hos
  go_enter Tryz.func6, Tryz.ntmps6
  go_wp2_with fail
  refine HC.out.mono ?_
  rintro e2 w2 ⟨rfl, hb2⟩
  go_wp2
  go_ret
  exact ⟨rfl, hb2⟩
end Go.Proofs.YtebinaopncclgaaGreatDoor
