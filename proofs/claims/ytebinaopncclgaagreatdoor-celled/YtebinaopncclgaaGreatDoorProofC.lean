/- The statement of Cells, proved; its card, tied. -/
import Derived.Test.YtebinaopncclgaaGreatDoorHoldR
import Derived.Test.YtebinaopncclgaaGreatDoorCRef
import Derived.Test.YtebinaopncclgaaGreatDoorOpenS
import Derived.Test.YtebinaopncclgaaGreatDoorTie
import Derived.Test.YtebinaopncclgaaGreatDoorCards
import Derived.ProofKit
import Derived.LaidMore
import Derived.OpenShut
import Derived.Stop.Joined
import Derived.SevenTiedAt
namespace Go.Proofs.YtebinaopncclgaaGreatDoor
open Go.RowKit Go.IntWalk

theorem op_tu {o : OpV} {W : World} {b : Nat} (h : W.heap[b]? = some (.cells o.vals 39 (0, 0))) : W.cell? ⟨b, 3, none⟩ = some (.string o.t) ∧ W.cell? ⟨b, 4, none⟩ = some (.string o.u) := ⟨by rw [cell_of_row _ _ _ _ _ _ h]; rfl, by rw [cell_of_row _ _ _ _ _ _ h]; rfl⟩

set_option maxRecDepth 100000 in
set_option maxHeartbeats 2000000 in
theorem inst_cells (bb hb a m : Nat) (o : OpV) (w : World) (ho : o.k = 7) (hos : o.s.size ≤ maxLen) (hot : o.t.size ≤ maxLen) (hou : o.u.size ≤ maxLen) (h : HoldInvB w bb hb a m) (ha : a ≤ 9100000000000) (hm : m ≤ 900000000000) (hbb : bb ≤ w.heap.size) :
    Calls Tryz.prog 15 #[.pointer (some ⟨hb, 0, none⟩), .agg o.vals] w fun e w' => e = .returned (.bool true) ∧ HoldInvB w' bb hb (a + 10) (m + 1) ∧ Below bb w w' := by
  obtain ⟨vi, vr, vs, vd, vn, I, R, S, D, N, h1, h2, h3, h4, h5, h6, h7⟩ := h
  have HH := hid h1
  have hbl : hb < w.heap.size := (Array.getElem?_eq_some_iff.1 h1.box).1
  have HP : Hid (∀ W, Calls Tryz.prog 44 #[.string o.s, .string o.t, .string o.u] W (CellsLeft W (parseS o.s.data.toList) o.t.data.toList o.u.data.toList)) := fun W => dcells_any o.s o.t o.u W hos hot hou
  have HQ : Hid (∀ W, Calls Tryz.prog 45 #[.string o.s, .string o.t, .string o.u] W (RCellsLeft W (parseS o.s.data.toList) o.t.data.toList o.u.data.toList)) := fun W => rdcells_any o.s o.t o.u W hos hot hou
  have HFN := hid (parse_fine o.s.data.toList)
  have hxr := parse_range o.s.data.toList
  have hok : (parseS o.s.data.toList).2.2 = 0 → RdOk (parseS o.s.data.toList).1 := parse_rdok
  have HOB := hid (op_box o w)
  generalize parseS o.s.data.toList = x at *
  have hcr : -9223372036854775808 ≤ cellsE x o.t.data.toList o.u.data.toList ∧ cellsE x o.t.data.toList o.u.data.toList ≤ 9223372036854775807 := by
    unfold cellsE
    by_cases h0 : x.2.2 ≠ 0
    · rw [if_pos h0]; exact hxr
    · rw [if_neg h0]; split <;> omega
  have hkey : cellsE x o.t.data.toList o.u.data.toList ≠ 0 ∨ (cellsE x o.t.data.toList o.u.data.toList = 0 ∧ x.2.2 = 0 ∧ ∃ T, readS x.1.stops.length (fun _ _ => 0) o.t.data.toList o.u.data.toList = some T) := by
    by_cases h0 : x.2.2 = 0
    · cases hr : readS x.1.stops.length (fun _ _ => 0) o.t.data.toList o.u.data.toList with
      | none => left; unfold cellsE; rw [if_neg (by omega), if_pos hr]; omega
      | some T => right; exact ⟨by unfold cellsE; rw [if_neg (by omega), if_neg (by rw [hr]; simp)], h0, T, rfl⟩
    · left; unfold cellsE; rw [if_pos h0]; exact h0
  have hst : x.1.stops.length ≤ 7 := HFN.out.1
  have hvv : x.2.2 = 0 → 1 ≤ x.1.vans ∧ x.1.vans ≤ 3 := fun h0 => by
    have := (hok h0).head
    simp only [headOk, Bool.and_eq_true, fit_iff, decide_eq_true_eq] at this
    omega
  have HKY := hid hkey
  have HVV := hid hvv
  generalize hce : cellsE x o.t.data.toList o.u.data.toList = ce at *
  have HCE := hid hce
  unfold OpV.vals
  rw [ho]
  clear h1 hok hkey hvv hce
  go_enter Tryz.func15, Tryz.ntmps15
  go_wp2_with fail
  rw [← ho]
  refine (HP.out _).mono ?_
  rintro e1 w1 ⟨v1, rfl, hn1, hg1, hb1⟩
  rw [HCE.out] at hn1 ⊢
  have hws : w.heap.size + 1 ≤ w1.heap.size := by have := hb1.size; simpa using this
  have hob1 := op_below HOB.out hb1
  obtain ⟨o2, hol⟩ := op_s hob1
  obtain ⟨o3, o4⟩ := op_tu hob1
  obtain ⟨ao, n, g, G, F, hv1, hn10, hsq, hsr, hz0, hz1⟩ : ∃ ao n g G F, v1 = .slice ao n n ∧ n ≤ 10 ∧ SqO w1 (w.heap.size + 1) ao n g G ∧ SqR w1 v1 n F ∧ (ce ≠ 0 → n = 0) ∧ (ce = 0 → x.2.2 = 0 ∧ n = x.1.stops.length + x.1.vans.toNat ∧ ∃ T, readS x.1.stops.length (fun _ _ => 0) o.t.data.toList o.u.data.toList = some T ∧ F = fun i j => cellS x.1.stops.length T (siteD x.1) (lineN x.1.stops.length i) (lineN x.1.stops.length j)) := by
    rcases HKY.out with h0 | ⟨h0, hx0, T, hT⟩
    · exact ⟨none, 0, 0, fun _ => 0, fun _ _ => 0, hn1 h0, by omega, sqO_nil _ _, by rw [hn1 h0]; exact SqR.nil _ _, fun _ => rfl, fun h => absurd h h0⟩
    · have hg := hg1 T hx0 hT
      have hv := HVV.out hx0
      obtain ⟨ao, g, G, e, hs⟩ := sqO_of hg (by omega)
      have : ((w.alloc (.cells o.vals 39)).heap.size) = w.heap.size + 1 := by simp
      exact ⟨ao, _, g, G, _, e, by omega, by rw [← this]; exact hs, hg.sq (by omega), fun h => absurd h0 h, fun _ => ⟨hx0, rfl, T, hT, rfl⟩⟩
  have HB1 : Hid (Below w.heap.size w w1) := (below1 w _).trans (hb1.mono (by simp))
  have HSQ := hid hsq
  have HSR := hid hsr
  have HZ0 := hid hz0
  have HZ1 := hid hz1
  subst hv1
  clear hn1 hg1 hb1 hsq hsr hz0 hz1 HP HOB hob1
  go_wp2_with fail
  refine (HQ.out _).mono ?_
  rintro e2 w2 ⟨v2, rfl, hn2, hg2, hb2⟩
  rw [HCE.out] at hn2 ⊢
  have HSR2 : Hid (SqR w2 v2 n F) := by
    show SqR _ _ _ _
    by_cases h0 : ce = 0
    · obtain ⟨hx0, hnn, T, hT, hF⟩ := HZ1.out h0
      obtain ⟨us, hu1, hu2⟩ := hg2 T hx0 hT
      have := hu2.sq hu1 (by omega)
      rw [hnn, hF]; exact this
    · rw [hn2 h0, HZ0.out h0]; exact SqR.nil _ _
  obtain ⟨auw, cuw, huw, _⟩ := id HSR2.out
  subst huw
  have HB2 := hid hb2
  clear hn2 hg2 hb2 HQ o2 o3 o4 hol
  go_wp2_with fail
  refine (sameSquare_any n (.slice ao n n) (.slice auw n cuw) F _ (HSR.out.below HB2.out) HSR2.out).mono ?_
  rintro e3 w3 ⟨rfl, hb3⟩
  have hb13 : Below w1.heap.size w1 w3 := HB2.out.trans (hb3.mono HB2.out.size)
  have hb03 : Below w.heap.size w w3 := HB1.out.trans (hb13.mono HB1.out.size)
  have hs1 := HB1.out.size
  have hs3 := hb13.size
  have hcon := square_walk bb w.heap.size hb (w.heap.size + 1) n g G ao vi vr vs vd vn I R S D N w3 (HH.out.below hb03 (Nat.le_refl _)) hn10 (by omega) (by omega) (by omega) (by omega) (by omega) h7 (fun k hk => by have := (HH.out.oi.lt k hk).2; omega) (by omega) (HSQ.out.below hb13)
  have HC := hid hcon
  have HB03 := hid hb03
  clear hcon hb03 hb13 hb3 HSR HSR2 HSQ
  go_wp2_with fail
  refine HC.out.mono ?_
  rintro e4 w4 ⟨vi', vr', L, s1, rfl, hh4, hl4, hs4, hb4⟩
  have HI4 : Hid (HoldInvB w4 bb hb (a + 10) (m + 1)) := ⟨vi', vr', vs, vd, vn, I ++ L, R ++ [s1], S, D, N, hh4, h2, by simp; omega, by simp; omega, by omega, by omega, hs4⟩
  have HB4 : Hid (Below bb w w4) := (HB03.out.mono hbb).trans hb4
  clear hh4 hl4 hs4 hb4 HC
  go_wp2_with (go_at_call 19; refine (num_any _ _ hcr).mono ?_; rintro e5 w5 ⟨rfl, rfl⟩)
  go_ret
  exact ⟨ret_bool (by simp), HI4.out, HB4.out⟩

set_option maxRecDepth 100000 in
set_option maxHeartbeats 1000000 in
theorem plays_cells (w0 : World) (hb : Nat) (o : OpV) (a m : Nat) (ho : o.k = 7) (hos : o.s.size ≤ maxLen) (hot : o.t.size ≤ maxLen) (hou : o.u.size ≤ maxLen) (ha : a ≤ 9100000000000) (hm : m ≤ 900000000000) : PlaysBy w0 hb o a m (a + 10) (m + 1) := by
  intro w h hw0
  have hbb : w0.heap.size ≤ w.heap.size := hw0.size
  generalize w0.heap.size = bb at *
  have HC := hid (inst_cells bb hb a m o (w.alloc (.cells o.vals 39)) ho hos hot hou (h.below (below1 w _)) ha hm (by simp; omega))
  unfold OpV.vals at HC ⊢
  rw [ho] at HC ⊢
  go_enter Tryz.func11, Tryz.ntmps11
  go_wp2_with fail
  refine HC.out.mono ?_
  rintro e2 w2 ⟨rfl, hi2, hb2⟩
  have HI2 := hid hi2
  have HB2 : Hid (Below bb w w2) := ((below1 w _).mono hbb).trans hb2
  clear hi2 hb2 HC
  go_wp2
  go_ret
  exact ⟨rfl, HI2.out, HB2.out⟩

set_option maxRecDepth 100000 in
set_option maxHeartbeats 1000000 in
theorem celled_walk (ao : Option Addr) (n c : Nat) (ops : Nat → OpV) (w : World) (hn : n ≤ 703687441776) (hs : ScriptAt w ao n ops) (hos : ∀ i, i < n → (ops i).s.size ≤ maxLen ∧ (ops i).t.size ≤ maxLen ∧ (ops i).u.size ≤ maxLen) :
    Calls Tryz.prog 9 #[.slice ao n c] w fun e w' => e = .returned (.bool true) ∧ Below w.heap.size w w' := by
  have HC := hid (upto_walk_by 7 7 ao n c ops (fun k => 10 * k) (fun k => k) w hn hs (fun k _ => ⟨by omega, Nat.le_succ k⟩) (fun i hi h1 h2 => plays_cells _ _ _ _ _ (by omega) (hos i hi).1 (hos i hi).2.1 (hos i hi).2.2 (by omega) (by omega)))
  clear hs hos
  go_enter Tryz.func9, Tryz.ntmps9
  go_wp2_with fail
  refine HC.out.mono ?_
  rintro e2 w2 ⟨rfl, hb2⟩
  go_wp2
  go_ret
  exact ⟨rfl, hb2⟩
end Go.Proofs.YtebinaopncclgaaGreatDoor
namespace Go.Proofs.YtebinaopncclgaaGreatDoor
open Go.ChangeShapes Go.WideShapes Go.ChangeAt Go.WideMaps Go.WideElems Go.RowKit Go.Deep

/- the door's own heap meets the condition -/
theorem door_met (os : Os) (args : Array Value) : laidMetH Tryz.prog Rows.celledRow.laid ((World.doorLaid Tryz.prog 400 os).forCall (fun _ _ => 0) ⟨#[], args, []⟩).memory :=
  laidMetH_of_parts3 (fuel := 8) (laidMet_of_run' 8 (by kernel_rfl) (by kernel_rfl)) (by kernel_rfl) (by kernel_rfl)
set_option maxRecDepth 100000 in
theorem celled_lifted (os : Os) (started : os.Started) (H : Type) (enc : TypeId × Value → H) :
    ReturnsInHanded {} Tryz.checked os 9 .any (fun w args => (Rows.celledSpec.pre enc Tryz.prog Tryz.f9 [] false w args ∧ laidMetH Tryz.prog Rows.celledRow.laid w) ∧ sizedMet enc Tryz.prog Tryz.f9 (OpenSpec.ofChange Rows.celledSpec) false w args)
      (Rows.celledSpec.post enc Tryz.prog Tryz.f9 false true false false) := by
  refine returnsInHanded_of_change_and (C := Tryz.checked) (X := fun w _ => laidMetH Tryz.prog Rows.celledRow.laid w) (fun _ _ _ hh h => h.of_heap hh) own started (by kernel_rfl) Tryz.func9
    (ChangeSpec.witness_shaped (enc := enc) (C := Tryz.checked) (os := os) (X := fun w _ => laidMetH Tryz.prog Rows.celledRow.laid w) false (World.doorLaid Tryz.prog 400 os) #[.slice none 0 0] 8 rfl (World.shaped_of_RefB (by kernel_rfl) (by kernel_rfl)) (by kernel_rfl) (by kernel_rfl) (by kernel_rfl) (door_met os _)) ?_
  intro W base args ds gs before hval0 hW _ hsz _ _
  have hval : ∀ (j : Nat) t v, Tryz.f9.params[j]? = some t → args[j]? = some v → Value.okWide Tryz.prog W .any base t v := hval0
  have hW' := hW
  obtain ⟨p, q, hA0, hV, rfl, hfz, hnd⟩ := hW
  have hA : DataW.TrodAll enc Tryz.prog W 0 (fun _ => true) true Tryz.f9.params.toList args.toList ds p := hA0
  rw [Tryz.params9] at hA hval
  obtain ⟨v0, vs0, d0, ds0, p0, q0, hargs, rfl, rfl, h0, r0⟩ := trodAll_cons hA
  obtain ⟨rfl, rfl, rfl⟩ := trodAll_nil r0
  obtain rfl : args = #[v0] := by cases args; simp_all
  obtain ⟨rfl, rfl⟩ := trodVars_none hV
  have k0 := h0
  have lt0 : ∀ x ∈ p0, x.block < W.heap.size := by obtain ⟨m, hm⟩ := k0; exact DataW.trod_lt m _ _ _ hm
  obtain ⟨fuel, hf⟩ := h0
  have hv1 : v0.cells.toList = [v0] := by
    obtain ⟨a, len, cap, rfl⟩ := okWide_slice Tryz.underlying22 (hval 0 22 v0 rfl rfl)
    rfl
  rw [hv1] at hf
  obtain ⟨ao, n, c, ops, rfl, hS, hstr, hlen⟩ := open_script hf
  have hn : n ≤ 703687441776 := by
    refine script_room (H := H) (d := d0) ?_ hlen
    have h1 := hsz
    rw [Tryz.params9] at h1
    exact h1
  clear hA0 hval0
  refine (celled_walk ao n c ops W hn hS hstr).mono fun e W' ⟨he, bel⟩ => ?_
  subst he
  exact ⟨_, rfl, _, _, _, [], _, [], hW', trodAll_mk1 (shut_bool Tryz.underlying4 _), (trodAll_cons_mk (Below.trod laidOut (by kernel_rfl) (of_decide_eq_true (by kernel_rfl)) k0 bel lt0) trodAll_mk0), rfl, bel.frame _, fun h => by cases h⟩

theorem celled_said : Rows.CelledSaid :=
  OpenClaim.holds_of_wide 9 Tryz.f9 rfl rfl rfl rfl rfl rfl rfl ⟨rfl, rfl, rfl, rfl, rfl⟩ rfl rfl rfl rfl rfl (by kernel_rfl) Tryz.func9 (by kernel_rfl)
    (of_decide_eq_true (by kernel_rfl)) (by unfold Func.isWrapper; first | (rw [if_pos (by decide +kernel)]; kernel_rfl) | (rw [if_neg (by decide +kernel)]; exact ⟨rfl, rfl⟩))
    (fun os started H enc _ => celled_lifted os started H enc)

theorem celled_holds : Rows.CelledCardSaid :=
  Claim7.holds_tied_plain_at .later [] [.data, .data, .data] true Rows.celledCard.stood.harness false
    celled_said (fun _ h => by cases h) (by kernel_rfl) (fun _ h => by cases h) celled_row_tie rfl ⟨rfl, rfl⟩ (by kernel_rfl) rfl
    (fun f fn hf hfn => by
      obtain rfl : f = 9 := Option.some.inj ((show Tryz.prog.funcNamed Rows.celledRow.func = some 9 by kernel_rfl).symm.trans hf) |>.symm
      obtain rfl : fn = Tryz.f9 := (Option.some.inj (Tryz.func9.symm.trans hfn)).symm
      exact ⟨by kernel_rfl, fun j t ht => by
        rw [Tryz.params9] at ht
        have hm : t ∈ [22] := by simpa using Array.mem_of_getElem? ht
        have hall : ([22].all fun u => !Tryz.prog.wantsStandIn u) = true := by kernel_rfl
        exact (show Tryz.prog.wantsStandIn t = false by simpa using List.all_eq_true.1 hall t hm)⟩)
    (by kernel_rfl)
#print axioms celled_holds
end Go.Proofs.YtebinaopncclgaaGreatDoor
