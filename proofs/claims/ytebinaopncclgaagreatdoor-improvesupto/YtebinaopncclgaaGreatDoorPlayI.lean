/- Walks of the statements: one step: Improve. -/
import Derived.Test.YtebinaopncclgaaGreatDoorHoldR
import Derived.Test.YtebinaopncclgaaGreatDoorJCall
import Derived.Test.YtebinaopncclgaaGreatDoorDJudge
import Derived.Test.YtebinaopncclgaaGreatDoorIMoved
namespace Go.Proofs.YtebinaopncclgaaGreatDoor
open Go.RowKit Go.IntWalk

theorem judge_row {w w' : World} {n : Nat} {J : Int × Option (List Int) × Int} {e : Ending} (h : JudgeLeft w n J e w') : ∃ ao k c zs, e = .returned (.tuple #[.int .i64 J.1, .slice ao k c, .int .i64 J.2.2]) ∧ w'.ownsRow w.heap.size 3 1 (.slice ao k c) k (ints zs) ∧ zs.length = k ∧ k ≤ n ∧ zs = J.2.1.getD [] ∧ Below w.heap.size w w' := by
  obtain ⟨v, rfl, h1, h2, h3⟩ := h
  cases hj : J.2.1 with
  | none =>
    rw [h1 hj]
    exact ⟨none, 0, 0, [], rfl, World.ownsRow_nil _ _ _ _, rfl, Nat.zero_le _, rfl, h3⟩
  | some S =>
    obtain ⟨k1, k2, _⟩ := h2 S hj
    obtain ⟨ao, c, hv, _, _⟩ := own_val k1
    subst hv
    exact ⟨ao, n, c, S, rfl, k1, k2, Nat.le_refl _, rfl, h3⟩
theorem judgeS_range (r : Rd) (D : Nat → Nat → Int) (l : List UInt8) : 0 ≤ (judgeS r D l).2.2 ∧ (judgeS r D l).2.2 ≤ 11 := by
  have hf : 0 ≤ textFaultS r.stops.length l ∧ textFaultS r.stops.length l ≤ 7 := by
    unfold textFaultS
    split
    · simp
    · split
      · simp
      · split <;> simp
  unfold judgeS
  split
  · exact ⟨hf.1, by show textFaultS _ _ ≤ _; omega⟩
  · split
    · simp
    · split
      · simp
      · split
        · simp
        · split <;> simp
theorem judged_range (s l : List UInt8) : -9223372036854775808 ≤ (judgedS (parseS s) l).2.2 ∧ (judgedS (parseS s) l).2.2 ≤ 9223372036854775807 := by
  have h1 := parse_range s
  unfold judgedS
  split
  · exact h1
  · have := judgeS_range (parseS s).1 (siteD (parseS s).1) l; omega

theorem op_t {o : OpV} {W : World} {b : Nat} (h : W.heap[b]? = some (.cells o.vals 39 (0, 0))) : W.cell? ⟨b, 3, none⟩ = some (.string o.t) := by rw [cell_of_row _ _ _ _ _ _ h]; rfl
theorem rows_read {w : World} {B n : Nat} {ao : Option Addr} {c : Nat} {zs : List Int} (h : w.ownsRow B 3 1 (.slice ao n c) n (ints zs)) (hl : zs.length = n) : ∀ j, j < n → ∃ g, ao = some ⟨g, 0, none⟩ ∧ g < w.heap.size ∧ w.cell? ⟨g, j, none⟩ = some (.int .i64 (zs.getD j 0)) := by
  intro j hj
  obtain ⟨ao', c', hv, h1, h2⟩ := own_val h
  cases hv
  cases ao with
  | none => exact absurd (h2 rfl) (by omega)
  | some a =>
    obtain ⟨g, rfl, _, hg⟩ := h1 a rfl
    refine ⟨g, rfl, hg, ?_⟩
    rw [h.cellAt j (by omega)]
    simp [ints, List.getD_eq_getElem?_getD, List.getElem?_eq_getElem (show j < zs.length by omega)]

set_option maxRecDepth 100000 in
set_option maxHeartbeats 4000000 in
theorem inst_judge (bb hb m : Nat) (o : OpV) (w : World) (ho : o.k = 4) (hos : o.s.size ≤ maxLen) (hot : o.t.size ≤ 2000000) (h : HoldInv w bb hb m) (hm : m ≤ 703687441776) (hbb : bb ≤ w.heap.size) :
    Calls Tryz.prog 14 #[.pointer (some ⟨hb, 0, none⟩), .agg o.vals] w fun e w' => e = .returned (.bool true) ∧ HoldInv w' bb hb (m + 1) ∧ Below bb w w' := by
  obtain ⟨vi, vr, vs, vd, vn, I, R, S, D, N, h1, h2, h3, h4, h5, h6, h7⟩ := h
  have HH := hid h1
  have hbl : hb < w.heap.size := (Array.getElem?_eq_some_iff.1 h1.box).1
  have HP : Hid (∀ W, Calls Tryz.prog 35 #[.string o.s, .string o.t] W (JudgeLeft W (parseS o.s.data.toList).1.stops.length (judgedS (parseS o.s.data.toList) o.t.data.toList))) := fun W => djudge_any o.s o.t W hos (by unfold maxLen; omega)
  have HQ : Hid (∀ W, Calls Tryz.prog 30 #[.string o.s] W (GroundLeft W (parseS o.s.data.toList))) := fun W => on_any o.s W hos
  have HFN := hid (parse_fine o.s.data.toList)
  have hxr := parse_range o.s.data.toList
  have hjr := judged_range o.s.data.toList o.t.data.toList
  have HOK : Hid ((parseS o.s.data.toList).2.2 = 0 → RdOk (parseS o.s.data.toList).1) := parse_rdok
  have HOB := hid (op_box o w)
  have HGJ : Hid (∀ (vs vr vw : Value) (W : World), (parseS o.s.data.toList).2.2 = 0 → StR W vs (parseS o.s.data.toList).1 → SqR W vw ((parseS o.s.data.toList).1.stops.length + 1) (siteD (parseS o.s.data.toList).1) → (∃ ao n c, vr = .slice ao n c) → Calls Tryz.prog 36 #[.agg (ground (parseS o.s.data.toList).1 vs vr vw), .string o.t] W (JudgeLeft W (parseS o.s.data.toList).1.stops.length (judgedS (parseS o.s.data.toList) o.t.data.toList))) := fun vs vr vw W h0 hs hq hv => by
    have hj : judgedS (parseS o.s.data.toList) o.t.data.toList = judgeS (parseS o.s.data.toList).1 (siteD (parseS o.s.data.toList).1) o.t.data.toList := by unfold judgedS; rw [if_neg (by rw [h0]; simp)]
    rw [hj]
    exact gjudge_any _ _ o.t vs vr vw W (HOK.out h0) hs hq (site_range (HOK.out h0)) hot hv
  have HJE : Hid ((parseS o.s.data.toList).2.2 ≠ 0 → judgedS (parseS o.s.data.toList) o.t.data.toList = (0, none, (parseS o.s.data.toList).2.2)) := fun h => by unfold judgedS; rw [if_pos h]
  generalize judgedS (parseS o.s.data.toList) o.t.data.toList = J at *
  generalize parseS o.s.data.toList = x at *
  obtain ⟨r, nat, er⟩ := x
  have hst : r.stops.length ≤ 7 := HFN.out.1
  unfold OpV.vals
  rw [ho]
  clear h1
  go_enter Tryz.func14, Tryz.ntmps14
  go_wp2_with fail
  rw [← ho]
  refine (HP.out _).mono ?_
  intro e1 w1 hj1
  obtain ⟨ao, k, c, zs, rfl, hown1, hzl, hk, hzs, hb1⟩ := judge_row hj1
  have hws : w.heap.size + 1 ≤ w1.heap.size := by have := hb1.size; simpa using this
  have hob1 := op_below HOB.out hb1
  obtain ⟨o2, hol⟩ := op_s hob1
  have o3 := op_t hob1
  have HOB1 := hid hob1
  have HB1 : Hid (Below w.heap.size w w1) := (below1 w _).trans (hb1.mono (by simp))
  have HO1 : Hid (w1.ownsRow (w.heap.size + 1) 3 1 (.slice ao k c) k (ints zs)) := own_base hown1 (by simp)
  have HZS := hid hzs
  clear hj1 hown1 hb1 hob1 HP HOB hzs
  go_wp2_with fail
  refine (HQ.out _).mono ?_
  rintro e2 w2 ⟨us, ur, uw, rfl, hos2, hor2, hn2, hg2, hb2⟩
  dsimp only at hn2 hg2 hos2 hor2
  obtain ⟨aus, cus, hv2, _, _⟩ := own_val hos2
  obtain ⟨aur, cur, hv3, _, _⟩ := own_val hor2
  subst hv2 hv3
  have HB2 := hid hb2
  have hol2 := Nat.lt_of_lt_of_le hol hb2.size
  have o32 : w2.cell? ⟨w.heap.size, 3, none⟩ = some (.string o.t) := (hb2.cell (by exact hol)).trans o3
  by_cases h0 : er = 0
  · subst h0
    have hst2 := StR.own hos2 (HOK.out rfl).shape.stops
    have hsq2 : SqR w2 uw (r.stops.length + 1) (siteD r) := by
      obtain ⟨us', hu1, hu2⟩ := hg2 rfl
      exact hu2.sq hu1 (by omega)
    obtain ⟨auw, cuw, huw, _⟩ := hsq2
    subst huw
    have hsq2 : SqR w2 (.slice auw (r.stops.length + 1 : Nat) cuw) (r.stops.length + 1) (siteD r) := by
      obtain ⟨us', hu1, hu2⟩ := hg2 rfl
      exact hu2.sq hu1 (by omega)
    have HC : Hid (∀ W, Below w2.heap.size w2 W → Calls Tryz.prog 36 #[.agg (ground r (.slice aus r.stops.length cus) (.slice aur r.roads.length cur) (.slice auw (r.stops.length + 1 : Nat) cuw)), .string o.t] W (JudgeLeft W r.stops.length J)) := fun W hW => HGJ.out _ _ _ W rfl (hst2.below hW) (hsq2.below hW) ⟨_, _, _, rfl⟩
    clear hos2 hor2 hn2 hg2 hb2 HQ hst2 hsq2 HGJ o2 o3 HJE
    unfold ground at *
    go_wp2_with fail
    refine (HC.out _ (below1 w2 _)).mono ?_
    intro e3 w3 hj3
    obtain ⟨ao3, k3, c3, zs3, rfl, hown3, hzl3, hk3, hzs3, hb3⟩ := judge_row hj3
    have hzz : zs3 = zs := hzs3.trans HZS.out.symm
    subst hzz
    have hkk : k3 = k := by rw [← hzl3, hzl]
    subst hkk
    have hb23 : Below w2.heap.size w2 w3 := (below1 w2 _).trans (hb3.mono (by simp))
    have HB13 : Hid (Below w1.heap.size w1 w3) := HB2.out.trans (hb23.mono HB2.out.size)
    have HS := hid (sameInts_any k3 c c3 ao ao3 (fun j => zs3.getD j 0) w3 (by omega) (rows_read (own_below HO1.out HB13.out) hzl) (rows_read hown3 hzl))
    clear hj3 hown3 hzl3 hk3 hzs3 hb3 hb23 HC HB2 hzl HZS
    go_wp2_with fail
    refine HS.out.mono ?_
    rintro e4 w4 ⟨rfl, hb4⟩
    have hb04 : Below w.heap.size w w4 := HB1.out.trans ((HB13.out.trans (hb4.mono HB13.out.size)).mono HB1.out.size)
    have hb14 : Below w1.heap.size w1 w4 := HB13.out.trans (hb4.mono HB13.out.size)
    have hs1 := HB1.out.size
    have hs4 := hb14.size
    have hcon := list_walk bb w.heap.size hb (w.heap.size + 1) k3 vi vr vs vd vn I R S D N (.slice ao k3 c) (ints zs3) w4 (HH.out.below hb04 (Nat.le_refl _)) (by omega) (by omega) (by omega) h7 (own_below HO1.out hb14) (fun i hi g c' e hc he => by
      obtain ⟨ao', c'', e1, _, e2⟩ := HH.out.fi i hi
      rw [e] at e1
      cases e1
      obtain ⟨g', _, e3, e4, _⟩ := e2 hc
      cases e3
      have := (HO1.out.lt _ he).1
      omega)
    have HC4 := hid hcon
    have HB04 := hid hb04
    clear hcon hb04 hb14 hb4 HO1 HB13
    go_wp2_with fail
    refine HC4.out.mono ?_
    rintro e5 w5 ⟨vi', s1, rfl, hh5, hs5, _, _, _, _, hb5⟩
    have HI5 : Hid (HoldInv w5 bb hb (m + 1)) := ⟨vi', vr, vs, vd, vn, I ++ [s1], R, S, D, N, hh5, h2, by simp; omega, by omega, by omega, by omega, hs5⟩
    have HB5 : Hid (Below bb w w5) := (HB04.out.mono hbb).trans (hb5.mono (by omega))
    clear hh5 hs5 hb5 HC4
    go_wp2_with (go_at_call 19; refine (num_any _ _ hjr).mono ?_; rintro e6 w6 ⟨rfl, rfl⟩)
    go_ret
    exact ⟨ret_bool (by simp), HI5.out, HB5.out⟩
  · have hne : (er != 0) = true := by simp [h0]
    have hne2 : (er == 0) = false := by simp [h0]
    have hJ := HJE.out h0
    have huw := hn2 h0
    subst huw
    have hz0 : zs = [] := by rw [HZS.out, hJ]; rfl
    subst hz0
    have hk0 : k = 0 := hzl.symm
    subst hk0
    have HB13 := HB2
    have HS : Hid (∀ W, Calls Tryz.prog 37 #[.slice ao (0 : Nat) c, .slice none (0 : Nat) (0 : Nat)] W _) := fun W => sameInts_any 0 c 0 ao none (fun _ => 0) W (by omega) (fun j hj => absurd hj (by omega)) (fun j hj => absurd hj (by omega))
    clear hos2 hor2 hn2 hg2 hb2 HQ HGJ o2 o3 HZS hzl
    rw [hJ] at hjr
    rw [hJ]
    clear hJ HJE
    unfold ground
    go_wp2_with fail
    refine (HS.out _).mono ?_
    rintro e4 w4 ⟨rfl, hb4'⟩
    have hb4 : Below w2.heap.size w2 w4 := (below1 w2 _).trans (hb4'.mono (by simp))
    clear hb4'
    have hb04 : Below w.heap.size w w4 := HB1.out.trans ((HB13.out.trans (hb4.mono HB13.out.size)).mono HB1.out.size)
    have hb14 : Below w1.heap.size w1 w4 := HB13.out.trans (hb4.mono HB13.out.size)
    have hs1 := HB1.out.size
    have hs4 := hb14.size
    have hcon := list_walk bb w.heap.size hb (w.heap.size + 1) 0 vi vr vs vd vn I R S D N (.slice ao 0 c) (ints []) w4 (HH.out.below hb04 (Nat.le_refl _)) (by omega) (by omega) (by omega) h7 (own_below HO1.out hb14) (fun i hi g c' e hc he => by
      obtain ⟨ao', c'', e1, _, e2⟩ := HH.out.fi i hi
      rw [e] at e1
      cases e1
      obtain ⟨g', _, e3, e4, _⟩ := e2 hc
      cases e3
      have := (HO1.out.lt _ he).1
      omega)
    have HC4 := hid hcon
    have HB04 := hid hb04
    clear hcon hb04 hb14 hb4 HO1 HB13
    go_wp2_with fail
    refine HC4.out.mono ?_
    rintro e5 w5 ⟨vi', s1, rfl, hh5, hs5, _, _, _, _, hb5⟩
    have HI5 : Hid (HoldInv w5 bb hb (m + 1)) := ⟨vi', vr, vs, vd, vn, I ++ [s1], R, S, D, N, hh5, h2, by simp; omega, by omega, by omega, by omega, hs5⟩
    have HB5 : Hid (Below bb w w5) := (HB04.out.mono hbb).trans (hb5.mono (by omega))
    clear hh5 hs5 hb5 HC4
    go_wp2_with (go_at_call 19; refine (num_any _ _ hjr).mono ?_; rintro e6 w6 ⟨rfl, rfl⟩)
    go_ret
    exact ⟨ret_bool (by simp), HI5.out, HB5.out⟩

set_option maxRecDepth 100000 in
set_option maxHeartbeats 1000000 in
theorem plays_judge (w0 : World) (hb : Nat) (o : OpV) (ho : o.k = 4) (hos : o.s.size ≤ maxLen) (hot : o.t.size ≤ 2000000) : Plays w0 hb o := by
  intro w m h hm hw0
  have hbb : w0.heap.size ≤ w.heap.size := hw0.size
  generalize w0.heap.size = bb at *
  have HC := hid (inst_judge bb hb m o (w.alloc (.cells o.vals 39)) ho hos hot (h.below (below1 w _)) hm (by simp; omega))
  unfold OpV.vals at HC ⊢
  rw [ho] at HC ⊢
  go_enter Tryz.func11, Tryz.ntmps11
  go_wp2_with fail
  refine HC.out.mono ?_
  rintro e2 w2 ⟨rfl, hi2, hb2⟩
  have HI2 := hid hi2
  have HB2 : Hid (Below bb w w2) := ((below1 w _).mono hbb).trans hb2
  clear hi2 hb2 HC
  go_wp2
  go_ret
  exact ⟨rfl, HI2.out, HB2.out⟩

set_option maxRecDepth 100000 in
set_option maxHeartbeats 1000000 in
theorem judges_walk (ao : Option Addr) (n c : Nat) (ops : Nat → OpV) (w : World) (hn : n ≤ 703687441776) (hs : ScriptAt w ao n ops) (hos : ∀ i, i < n → (ops i).s.size ≤ maxLen ∧ (ops i).t.size ≤ 2000000) :
    Calls Tryz.prog 6 #[.slice ao n c] w fun e w' => e = .returned (.bool true) ∧ Below w.heap.size w w' := by
  have HC := hid (upto_walk 4 4 ao n c ops w hn hs (fun i hi h1 h2 => plays_judge _ _ _ (by omega) (hos i hi).1 (hos i hi).2))
  clear hs hos
  go_enter Tryz.func6, Tryz.ntmps6
  go_wp2_with fail
  refine HC.out.mono ?_
  rintro e2 w2 ⟨rfl, hb2⟩
  go_wp2
  go_ret
  exact ⟨rfl, hb2⟩
end Go.Proofs.YtebinaopncclgaaGreatDoor
namespace Go.Proofs.YtebinaopncclgaaGreatDoor
open Go.RowKit Go.IntWalk

theorem least_tidy {r : Rd} {D : Nat → Nat → Int} {l : List UInt8} {c : Int} (ha : Acc r D l c) (h : Least r D l c) : ∀ q ∈ movesS tidyW l l.length, ¬ ((judgeS r D q).2.2 = 0 ∧ (judgeS r D q).1 < c) := by
  intro q hq hb
  have hm : movesS withoutS l l.length = movesS tidyW l l.length := moves_same (fine_size (acc_fine ha)).2.1
  rw [← hm] at hq
  have := h q hq _ (acc_iff.2 ⟨hb.1, rfl⟩)
  omega

set_option maxRecDepth 100000 in
set_option maxHeartbeats 4000000 in
theorem improved_any (s t op : ByteArray) (oc e : Int) (w : World) (hs : s.size ≤ maxLen) (ht : t.size ≤ 2000000) (hne : (judgedS (parseS s.data.toList) t.data.toList).2.2 ≠ 0 → op = ⟨#[]⟩ ∧ oc = 0 ∧ e = (judgedS (parseS s.data.toList) t.data.toList).2.2)
    (hze : (judgedS (parseS s.data.toList) t.data.toList).2.2 = 0 → e = 0 ∧ Acc (parseS s.data.toList).1 (siteD (parseS s.data.toList).1) op.data.toList oc ∧ oc ≤ (judgedS (parseS s.data.toList) t.data.toList).1 ∧ Least (parseS s.data.toList).1 (siteD (parseS s.data.toList).1) op.data.toList oc) :
    Calls Tryz.prog 34 #[.string s, .string t, .string op, .int .i64 oc, .int .i64 e] w fun q w' => q = .returned (.bool true) ∧ Below w.heap.size w w' := by
  have HQ : Hid (∀ W, Calls Tryz.prog 30 #[.string s] W (GroundLeft W (parseS s.data.toList))) := fun W => on_any s W hs
  have HFN := hid (parse_fine s.data.toList)
  have HOK : Hid ((parseS s.data.toList).2.2 = 0 → RdOk (parseS s.data.toList).1) := parse_rdok
  have HJ0 : Hid ((parseS s.data.toList).2.2 = 0 → judgedS (parseS s.data.toList) t.data.toList = judgeS (parseS s.data.toList).1 (siteD (parseS s.data.toList).1) t.data.toList) := fun h => by unfold judgedS; rw [if_neg (by rw [h]; simp)]
  have HJE : Hid ((parseS s.data.toList).2.2 ≠ 0 → judgedS (parseS s.data.toList) t.data.toList = (0, none, (parseS s.data.toList).2.2)) := fun h => by unfold judgedS; rw [if_pos h]
  have hjr := judged_range s.data.toList t.data.toList
  generalize judgedS (parseS s.data.toList) t.data.toList = J at *
  generalize parseS s.data.toList = x at *
  obtain ⟨r, nat, er⟩ := x
  have hst : r.stops.length ≤ 7 := HFN.out.1
  dsimp only at hze
  by_cases h0 : er = 0
  · subst h0
    have HRD := hid (HOK.out rfl)
    have HGJ : Hid (∀ (q : ByteArray) (vs vr vw : Value) (W : World), q.size ≤ 2000000 → StR W vs r → SqR W vw (r.stops.length + 1) (siteD r) → (∃ ao n c, vr = .slice ao n c) → Calls Tryz.prog 36 #[.agg (ground r vs vr vw), .string q] W (JudgeLeft W r.stops.length (judgeS r (siteD r) q.data.toList))) := fun q vs vr vw W hq h1 h2 h3 => gjudge_any _ _ q vs vr vw W HRD.out h1 h2 (site_range HRD.out) hq h3
    have hJ := HJ0.out rfl
    have HJT := hid hJ
    clear HJ0 HJE HOK hs
    go_enter Tryz.func34, Tryz.ntmps34
    go_wp2_with fail
    refine (HQ.out _).mono ?_
    rintro e2 w2 ⟨us, ur, uw, rfl, hos2, hor2, hn2, hg2, hb2⟩
    dsimp only at hn2 hg2 hos2 hor2
    obtain ⟨aus, cus, hv2, _, _⟩ := own_val hos2
    obtain ⟨aur, cur, hv3, _, _⟩ := own_val hor2
    subst hv2 hv3
    have hst2 := StR.own hos2 HRD.out.shape.stops
    obtain ⟨us', hu1, hu2⟩ := hg2 rfl
    have hsq2 := hu2.sq hu1 (by omega)
    have hsq3 := hsq2
    obtain ⟨auw, cuw, huw, _⟩ := hsq3
    subst huw
    obtain ⟨W, hW⟩ : ∃ W, W = w2.alloc (.cells (ground r (.slice aus r.stops.length cus) (.slice aur r.roads.length cur) (.slice auw (r.stops.length + 1 : Nat) cuw)) 70) := ⟨_, rfl⟩
    obtain ⟨hbW, hbox, k0, k1, k2, k3, k4, k5, k6, k7⟩ := ground_box hW
    have HG2 : Hid (∀ (q : ByteArray) (W' : World), q.size ≤ 2000000 → Below W.heap.size W W' → Calls Tryz.prog 36 #[.agg (ground r (.slice aus r.stops.length cus) (.slice aur r.roads.length cur) (.slice auw (r.stops.length + 1 : Nat) cuw)), .string q] W' (JudgeLeft W' r.stops.length (judgeS r (siteD r) q.data.toList))) := fun q W' hq hW' => HGJ.out q _ _ _ W' hq ((hst2.below hbW).below hW') ((hsq2.below hbW).below hW') ⟨_, _, _, rfl⟩
    have HB2 : Hid (Below w.heap.size w W) := hb2.trans (hbW.mono hb2.size)
    have HWQ := hid hW
    have HC1 : Hid (Calls Tryz.prog 36 #[.agg (ground r (.slice aus r.stops.length cus) (.slice aur r.roads.length cur) (.slice auw (r.stops.length + 1 : Nat) cuw)), .string t] W (JudgeLeft W r.stops.length J)) := by
      have h := HG2.out t W ht (Below.refl _ _)
      rw [← HJT.out] at h
      exact h
    clear hos2 hor2 hn2 hg2 hb2 hu2 hst2 hsq2 hW hbW HQ HGJ
    obtain ⟨jc, jo, je⟩ := J
    dsimp only at hne hze hjr
    by_cases hje : je = 0
    · subst hje
      obtain ⟨rfl, hac, hle, hls⟩ := hze rfl
      have hs14 := acc_size hst hac
      have HAC := hid (acc_iff.1 hac)
      have HLE := hid (least_tidy hac hls)
      have HC2 : Hid (∀ W', Below W.heap.size W W' → Calls Tryz.prog 36 #[.agg (ground r (.slice aus r.stops.length cus) (.slice aur r.roads.length cur) (.slice auw (r.stops.length + 1 : Nat) cuw)), .string op] W' (JudgeLeft W' r.stops.length (judgeS r (siteD r) op.data.toList))) := fun W' h => HG2.out op W' (by omega) h
      have HMV : Hid (∀ W', Calls Tryz.prog 71 #[.string op] W' fun e w' => ∃ v, e = .returned v ∧ w'.ownsRow W'.heap.size 9 1 v (movesS tidyW op.data.toList op.size).length (strs (movesS tidyW op.data.toList op.size)) ∧ Below W'.heap.size W' w') := fun W' => moved_any op W' (by omega)
      clear hne hze hac hls HJT
      unfold ground at *
      go_wp2_with fail
      rw [← HWQ.out]
      refine HC1.out.mono ?_
      intro e3 w3 hj3
      obtain ⟨ao3, n3, c3, zs3, rfl, _, _, _, _, hb3⟩ := judge_row hj3
      have HB3 : Hid (Below W.heap.size W w3) := hb3
      clear hb3 hj3 HC1
      dsimp only
      have HC3 := hid (HC2.out w3 HB3.out)
      have hbx3 : w2.heap.size < w3.heap.size := Nat.lt_of_lt_of_le hbox HB3.out.size
      have q0 : w3.cell? _ = _ := (HB3.out.cell (by exact hbox)).trans k0; have q1 : w3.cell? _ = _ := (HB3.out.cell (by exact hbox)).trans k1; have q2 : w3.cell? _ = _ := (HB3.out.cell (by exact hbox)).trans k2; have q3 : w3.cell? _ = _ := (HB3.out.cell (by exact hbox)).trans k3; have q4 : w3.cell? _ = _ := (HB3.out.cell (by exact hbox)).trans k4; have q5 : w3.cell? _ = _ := (HB3.out.cell (by exact hbox)).trans k5; have q6 : w3.cell? _ = _ := (HB3.out.cell (by exact hbox)).trans k6; have q7 : w3.cell? _ = _ := (HB3.out.cell (by exact hbox)).trans k7
      generalize judgeS r (siteD r) op.data.toList = J2 at *
      obtain ⟨c2, o2, h2⟩ := J2
      obtain ⟨hh2, hc2⟩ := HAC.out
      dsimp only at hh2 hc2
      subst hh2 hc2
      clear HAC HC2
      go_wp2_with fail
      refine HC3.out.mono ?_
      intro e4 w4 hj4
      obtain ⟨ao4, n4, c4, zs4, rfl, _, _, _, _, hb4⟩ := judge_row hj4
      have HB4 : Hid (Below W.heap.size W w4) := HB3.out.trans (hb4.mono HB3.out.size)
      clear hb4 hj4 HC3 q0 q1 q2 q3 q4 q5 q6 q7 hbx3
      dsimp only
      have e1 : (c2 != c2) = false := by simp
      have hle2 : ¬ (jc < c2) := by omega
      go_wp2_with fail
      refine (HMV.out _).mono ?_
      rintro e5 w5 ⟨v5, rfl, ho5, hb5⟩
      have HB5 : Hid (Below W.heap.size W w5) := HB4.out.trans (hb5.mono HB4.out.size)
      have hsl : op.data.toList.length = op.size := by simp
      have hml : (movesS tidyW op.data.toList op.size).length ≤ 10200 := by
        have h1 := moves_len tidyW tidyW_len op.data.toList op.size (by omega)
        have h2 : op.size * (op.data.toList.length + 2) ≤ 14 * 16 := Nat.mul_le_mul (by omega) (by omega)
        omega
      have HQS : Hid (∀ q ∈ movesS tidyW op.data.toList op.size, q.length ≤ 100000) := fun q hq => by
        have := moves_size tidyW tidyW_len op.data.toList op.size (by omega) q hq
        omega
      rw [hsl] at HLE
      generalize movesS tidyW op.data.toList op.size = ls at *
      obtain ⟨al, cl, rfl, _, _⟩ := own_val ho5
      have HO5 := hid ho5
      clear hb5 ho5 HMV hsl
      go_wp2_with fail
      go_loopw [14, 16, 18] (fun cv hv i wr => ∃ (k : Nat) (z1 z2 : Int), k ≤ ls.length ∧ i = .int .i64 k ∧ cv = .int .i64 z1 ∧ hv = .int .i64 z2 ∧ Hid (Below w5.heap.size w5 wr)) (fun _ _ i _ => ls.length - (intOf i).toNat)
      case atStart => exact ⟨0, _, _, Nat.zero_le _, rfl, rfl, rfl, Below.refl _ _⟩
      case round =>
        obtain ⟨k, z1, z2, hk, rfl, rfl, rfl, HB⟩ := hrel
        have HBB : Hid (Below W.heap.size W wr) := HB5.out.trans (HB.out.mono HB5.out.size)
        have hbx : w2.heap.size < wr.heap.size := Nat.lt_of_lt_of_le hbox HBB.out.size
        by_cases hlt : k < ls.length
        · obtain ⟨g, rfl, hg, hc⟩ : ∃ g, al = some ⟨g, 0, none⟩ ∧ g < w5.heap.size ∧ w5.cell? ⟨g, k, none⟩ = some (.string ⟨ls[k].toArray⟩) := by
            obtain ⟨ao', c', hv, h1, h2⟩ := own_val HO5.out
            cases hv
            cases al with
            | none => exact absurd (h2 rfl) (by omega)
            | some a =>
              obtain ⟨g, rfl, _, hg⟩ := h1 a rfl
              exact ⟨g, rfl, hg, by rw [HO5.out.cellAt k (by omega)]; simp [strs, hlt]⟩
          obtain ⟨q, hq⟩ : ∃ q, q = ls[k] := ⟨_, rfl⟩
          have hmem : q ∈ ls := by rw [hq]; exact List.getElem_mem _
          have HNO := hid (HLE.out q hmem)
          have hql := HQS.out q hmem
          have HC := fun W' (h : Below W.heap.size W W') => HG2.out ⟨q.toArray⟩ W' (by rw [bsize]; simpa using (by omega : q.length ≤ 2000000)) h
          have HCW : Hid (∀ W', Below wr.heap.size wr W' → Calls Tryz.prog 36 #[.agg #[.int .i64 r.vans, .int .i64 r.load, .int .i64 r.close, .int .i64 r.nodes, .int .i64 r.home, .slice aus r.stops.length cus, .slice aur r.roads.length cur, .slice auw (r.stops.length + 1 : Nat) cuw], .string ⟨q.toArray⟩] W' (JudgeLeft W' r.stops.length (judgeS r (siteD r) q))) := fun W' h => HC W' (HBB.out.trans (h.mono HBB.out.size))
          rw [← hq] at hc
          have hc : wr.cell? ⟨g, k, none⟩ = _ := (HB.out.cell (by exact hg)).trans hc
          have hgw : g < wr.heap.size := Nat.lt_of_lt_of_le hg HB.out.size
          have q0 : wr.cell? _ = _ := (HBB.out.cell (by exact hbox)).trans k0; have q1 : wr.cell? _ = _ := (HBB.out.cell (by exact hbox)).trans k1; have q2 : wr.cell? _ = _ := (HBB.out.cell (by exact hbox)).trans k2; have q3 : wr.cell? _ = _ := (HBB.out.cell (by exact hbox)).trans k3; have q4 : wr.cell? _ = _ := (HBB.out.cell (by exact hbox)).trans k4; have q5 : wr.cell? _ = _ := (HBB.out.cell (by exact hbox)).trans k5; have q6 : wr.cell? _ = _ := (HBB.out.cell (by exact hbox)).trans k6; have q7 : wr.cell? _ = _ := (HBB.out.cell (by exact hbox)).trans k7
          have ik : (0 : Int) ≤ (k : Int) := by omega
          have jk : (k : Int) < (ls.length : Int) := by omega
          generalize judgeS r (siteD r) q = J3 at *
          obtain ⟨c3', o3', h3'⟩ := J3
          dsimp only at HNO
          clear hq hmem HC HQS
          go_wp2_with fail
          go_region_held3 (fun w' => w'.cell? ⟨w2.heap.size, 0, none⟩ = some (.int .i64 r.vans) ∧ w'.cell? ⟨w2.heap.size, 1, none⟩ = some (.int .i64 r.load) ∧ w'.cell? ⟨w2.heap.size, 2, none⟩ = some (.int .i64 r.close) ∧ w'.cell? ⟨w2.heap.size, 3, none⟩ = some (.int .i64 r.nodes) ∧ w'.cell? ⟨w2.heap.size, 4, none⟩ = some (.int .i64 r.home) ∧ w'.cell? ⟨w2.heap.size, 5, none⟩ = some (.slice aus r.stops.length cus) ∧ w'.cell? ⟨w2.heap.size, 6, none⟩ = some (.slice aur r.roads.length cur) ∧ w'.cell? ⟨w2.heap.size, 7, none⟩ = some (.slice auw (r.stops.length + 1 : Nat) cuw) ∧ w'.cell? ⟨g, k, none⟩ = some (.string ⟨q.toArray⟩)) (go_keep)
            (first
              | (go_at_call 36; refine (HCW.out _ ((Below.refl _ _).drew)).mono ?_; intro e6 w6 hj6; obtain ⟨ao6, n6, c6, zs6, rfl, _, _, _, _, hb6⟩ := judge_row hj6; have hw6 : Below wr.heap.size wr w6 := ⟨hb6.os, hb6.tape, hb6.output, hb6.size, hb6.block⟩; have m0 := (hw6.cell (p := ⟨w2.heap.size, 0, none⟩) (by exact hbx)).trans q0; have m1 := (hw6.cell (p := ⟨w2.heap.size, 1, none⟩) (by exact hbx)).trans q1; have m2 := (hw6.cell (p := ⟨w2.heap.size, 2, none⟩) (by exact hbx)).trans q2; have m3 := (hw6.cell (p := ⟨w2.heap.size, 3, none⟩) (by exact hbx)).trans q3; have m4 := (hw6.cell (p := ⟨w2.heap.size, 4, none⟩) (by exact hbx)).trans q4; have m5 := (hw6.cell (p := ⟨w2.heap.size, 5, none⟩) (by exact hbx)).trans q5; have m6 := (hw6.cell (p := ⟨w2.heap.size, 6, none⟩) (by exact hbx)).trans q6; have m7 := (hw6.cell (p := ⟨w2.heap.size, 7, none⟩) (by exact hbx)).trans q7; have m8 := (hw6.cell (p := ⟨g, k, none⟩) (by exact hgw)).trans hc; have HB6 := hid hw6; clear hw6 hb6 hj6; dsimp only))
          clear m0 m1 m2 m3 m4 m5 m6 m7 m8
          by_cases hh3 : h3' = 0
          · have e3 : (h3' == 0) = true := by simp [hh3]
            have e4 : ¬ (c3' < c2) := fun h => HNO.out ⟨hh3, h⟩
            clear hh3
            go_wp2_with go_in
            go_roundw
            case rel => exact ⟨k + 1, _, _, by omega, by go_num, rfl, rfl, HB.out.trans (HB6.out.mono HB.out.size)⟩
            case measure => simp [intOf]; omega
          · have e3 : (h3' == 0) = false := by simpa using hh3
            clear hh3
            go_wp2_with go_in
            go_roundw
            case rel => exact ⟨k + 1, _, _, by omega, by go_num, rfl, rfl, HB.out.trans (HB6.out.mono HB.out.size)⟩
            case measure => simp [intOf]; omega
        · go_wp2_with go_in
          go_ret
          exact ⟨rfl, HB2.out.trans (HBB.out.mono HB2.out.size)⟩
    · obtain ⟨rfl, rfl, he⟩ := hne hje
      subst he
      have e0 : (e != 0) = true := by simpa using hje
      have e1 : (e == e) = true := by simp
      clear hne hze HJT hje
      unfold ground at *
      go_wp2_with fail
      rw [← HWQ.out]
      refine HC1.out.mono ?_
      intro e3 w3 hj3
      obtain ⟨ao3, n3, c3, zs3, rfl, _, _, _, _, hb3⟩ := judge_row hj3
      have HB3 : Hid (Below W.heap.size W w3) := hb3
      clear hb3 hj3 HC1
      dsimp only
      go_wp2_with go_in
      all_goals
        go_ret
        exact ⟨ret_bool (by simp), HB2.out.trans (HB3.out.mono HB2.out.size)⟩
  · have hJ := HJE.out h0
    subst hJ
    obtain ⟨rfl, rfl, he⟩ := hne h0
    dsimp only at he
    subst he
    have e0 : (e != 0) = true := by simpa using h0
    have e2 : (e == 0) = false := by simpa using h0
    have e1 : (e == e) = true := by simp
    have HNE := hid h0
    clear hne hze HJ0 HJE HOK hs h0
    go_enter Tryz.func34, Tryz.ntmps34
    go_wp2_with fail
    refine (HQ.out _).mono ?_
    rintro e2 w2 ⟨us, ur, uw, rfl, hos2, hor2, hn2, hg2, hb2⟩
    dsimp only at hn2 hg2 hos2 hor2
    obtain ⟨aus, cus, hv2, _, _⟩ := own_val hos2
    obtain ⟨aur, cur, hv3, _, _⟩ := own_val hor2
    subst hv2 hv3
    have huw := hn2 HNE.out
    subst huw
    have HB2 := hid hb2
    clear hos2 hor2 hn2 hg2 hb2 HQ
    unfold ground
    go_wp2_with go_in
    all_goals
      go_ret
      exact ⟨ret_bool (by simp), by first | exact HB2.out | exact HB2.out.alloc HB2.out.size _⟩
end Go.Proofs.YtebinaopncclgaaGreatDoor
namespace Go.Proofs.YtebinaopncclgaaGreatDoor
open Go.RowKit Go.IntWalk

set_option maxRecDepth 100000 in
set_option maxHeartbeats 4000000 in
theorem inst_improve (bb hb m : Nat) (o : OpV) (w : World) (ho : o.k = 5) (hos : o.s.size ≤ maxLen) (hot : o.t.size ≤ 2000000) (h : HoldInv w bb hb m) (hbb : bb ≤ w.heap.size) :
    Calls Tryz.prog 14 #[.pointer (some ⟨hb, 0, none⟩), .agg o.vals] w fun e w' => e = .returned (.bool true) ∧ HoldInv w' bb hb (m + 1) ∧ Below bb w w' := by
  have HH := hid h
  have HP : Hid (∀ W, Calls Tryz.prog 33 #[.string o.s, .string o.t] W (ImpLeft W (parseS o.s.data.toList).1 (siteD (parseS o.s.data.toList).1) (judgedS (parseS o.s.data.toList) o.t.data.toList))) := fun W => dimprove_any o.s o.t W hos (by unfold maxLen; omega)
  have HI : Hid (∀ (op : ByteArray) (oc e : Int) (W : World), ((judgedS (parseS o.s.data.toList) o.t.data.toList).2.2 ≠ 0 → op = ⟨#[]⟩ ∧ oc = 0 ∧ e = (judgedS (parseS o.s.data.toList) o.t.data.toList).2.2) → ((judgedS (parseS o.s.data.toList) o.t.data.toList).2.2 = 0 → e = 0 ∧ Acc (parseS o.s.data.toList).1 (siteD (parseS o.s.data.toList).1) op.data.toList oc ∧ oc ≤ (judgedS (parseS o.s.data.toList) o.t.data.toList).1 ∧ Least (parseS o.s.data.toList).1 (siteD (parseS o.s.data.toList).1) op.data.toList oc) → Calls Tryz.prog 34 #[.string o.s, .string o.t, .string op, .int .i64 oc, .int .i64 e] W fun q w' => q = .returned (.bool true) ∧ Below W.heap.size W w') := fun op oc e W h1 h2 => improved_any o.s o.t op oc e W hos hot h1 h2
  have hjr := judged_range o.s.data.toList o.t.data.toList
  have HOB := hid (op_box o w)
  generalize judgedS (parseS o.s.data.toList) o.t.data.toList = J at *
  generalize parseS o.s.data.toList = x at *
  obtain ⟨r, nat, er⟩ := x
  obtain ⟨jc, jo, je⟩ := J
  dsimp only at HI hjr
  unfold OpV.vals
  rw [ho]
  clear h
  have key : ∀ (op : ByteArray) (oc : Int) (W : World), (je ≠ 0 → op = ⟨#[]⟩ ∧ oc = 0) → (je = 0 → Acc r (siteD r) op.data.toList oc ∧ oc ≤ jc ∧ Least r (siteD r) op.data.toList oc) → Calls Tryz.prog 34 #[.string o.s, .string o.t, .string op, .int .i64 oc, .int .i64 je] W fun q w' => q = .returned (.bool true) ∧ Below W.heap.size W w' := fun op oc W h1 h2 => HI.out op oc je W (fun h => ⟨(h1 h).1, (h1 h).2, rfl⟩) (fun h => ⟨h, h2 h⟩)
  have KEY := hid key
  clear key HI
  go_enter Tryz.func14, Tryz.ntmps14
  go_wp2_with fail
  rw [← ho]
  refine (HP.out _).mono ?_
  rintro e1 w1 ⟨j1, j2, j3⟩
  obtain ⟨op, oc, rfl, hk⟩ : ∃ (op : ByteArray) (oc : Int), e1 = .returned (.tuple #[.string op, .int .i64 oc, .int .i64 je]) ∧ ∀ W, Calls Tryz.prog 34 #[.string o.s, .string o.t, .string op, .int .i64 oc, .int .i64 je] W fun q w' => q = .returned (.bool true) ∧ Below W.heap.size W w' := by
    by_cases h0 : je = 0
    · obtain ⟨op, oc, e, k1, k2, k3⟩ := j2 h0
      exact ⟨op, oc, by rw [e, h0], fun W => KEY.out op oc W (fun h => absurd h0 h) (fun _ => ⟨k1, k2, k3⟩)⟩
    · exact ⟨⟨#[]⟩, 0, j1 h0, fun W => KEY.out _ _ W (fun _ => ⟨rfl, rfl⟩) (fun h => absurd h h0)⟩
  have hob1 := op_below HOB.out j3
  obtain ⟨o2, hol⟩ := op_s hob1
  have o3 := op_t hob1
  have HB1 : Hid (Below w.heap.size w w1) := (below1 w _).trans (j3.mono (by simp))
  have HK := hid hk
  clear j1 j2 j3 hk KEY HP hob1 HOB
  go_wp2_with fail
  go_region_held3 (fun w' => w'.cell? ⟨w.heap.size, 2, none⟩ = some (.string o.s) ∧ w'.cell? ⟨w.heap.size, 3, none⟩ = some (.string o.t)) (go_keep)
    (first
      | (go_at_call 19; refine (num_any _ _ hjr).mono ?_; rintro e6 w6 ⟨he6, hw6⟩; subst he6; rw [hw6]; clear hw6 w6)
      | (go_at_call 34; refine (HK.out _).mono ?_; rintro e7 w7 ⟨rfl, hb7⟩; have hw7 : Below w1.heap.size w1 w7 := ⟨hb7.os, hb7.tape, hb7.output, hb7.size, hb7.block⟩; have m2 := (hw7.cell (p := ⟨w.heap.size, 2, none⟩) (by exact hol)).trans o2; have m3 := (hw7.cell (p := ⟨w.heap.size, 3, none⟩) (by exact hol)).trans o3; have HB7 := hid hw7; clear hw7 hb7))
  go_wp2
  go_ret
  have hbw : Below w.heap.size w w7 := HB1.out.trans (HB7.out.mono HB1.out.size)
  exact ⟨rfl, (HH.out.below hbw).more (Nat.le_succ _), hbw.mono hbb⟩

set_option maxRecDepth 100000 in
set_option maxHeartbeats 1000000 in
theorem plays_improve (w0 : World) (hb : Nat) (o : OpV) (ho : o.k = 5) (hos : o.s.size ≤ maxLen) (hot : o.t.size ≤ 2000000) : Plays w0 hb o := by
  intro w m h hm hw0
  have hbb : w0.heap.size ≤ w.heap.size := hw0.size
  generalize w0.heap.size = bb at *
  have HC := hid (inst_improve bb hb m o (w.alloc (.cells o.vals 39)) ho hos hot (h.below (below1 w _)) (by simp; omega))
  unfold OpV.vals at HC ⊢
  rw [ho] at HC ⊢
  go_enter Tryz.func11, Tryz.ntmps11
  go_wp2_with fail
  refine HC.out.mono ?_
  rintro e2 w2 ⟨rfl, hi2, hb2⟩
  have HI2 := hid hi2
  have HB2 : Hid (Below bb w w2) := ((below1 w _).mono hbb).trans hb2
  clear hi2 hb2 HC
  go_wp2
  go_ret
  exact ⟨rfl, HI2.out, HB2.out⟩

set_option maxRecDepth 100000 in
set_option maxHeartbeats 1000000 in
theorem improves_walk (ao : Option Addr) (n c : Nat) (ops : Nat → OpV) (w : World) (hn : n ≤ 703687441776) (hs : ScriptAt w ao n ops) (hos : ∀ i, i < n → (ops i).s.size ≤ maxLen ∧ (ops i).t.size ≤ 2000000) :
    Calls Tryz.prog 7 #[.slice ao n c] w fun e w' => e = .returned (.bool true) ∧ Below w.heap.size w w' := by
  have HC := hid (upto_walk 5 5 ao n c ops w hn hs (fun i hi h1 h2 => plays_improve _ _ _ (by omega) (hos i hi).1 (hos i hi).2))
  clear hs hos
  go_enter Tryz.func7, Tryz.ntmps7
  go_wp2_with fail
  refine HC.out.mono ?_
  rintro e2 w2 ⟨rfl, hb2⟩
  go_wp2
  go_ret
  exact ⟨rfl, hb2⟩
end Go.Proofs.YtebinaopncclgaaGreatDoor
