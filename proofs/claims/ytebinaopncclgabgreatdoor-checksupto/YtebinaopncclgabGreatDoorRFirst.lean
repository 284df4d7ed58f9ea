/- Walks of the document's answer: the first node of a tree that does not hold. -/
import Derived.Test.YtebinaopncclgabGreatDoorCRarc
import Derived.Test.YtebinaopncclgabGreatDoorRHope
import Derived.Test.YtebinaopncclgabGreatDoorGNodes
namespace Go.Proofs.YtebinaopncclgabGreatDoor
open Go.RowKit Go.IntWalk

theorem flat_two (L : List (List Int)) (x y : Int) : ints (L ++ [[x, y]]).flatten = ints L.flatten ++ [.int .i64 x, .int .i64 y] := by simp [ints]
theorem arcs_two {w : World} {v : Value} {L : List (List Int)} (h : ArcL w v L) : ∀ s ∈ L, s.length = 2 := fun s hs => by
  obtain ⟨i, hi, rfl⟩ := List.mem_iff_getElem.1 hs
  obtain ⟨ao, c, _, h⟩ := h
  obtain ⟨g, x, y, _, _, e, _⟩ := h i hi
  rw [e]; rfl
set_option maxRecDepth 100000 in
set_option maxHeartbeats 4000000 in
theorem rmore_any (L : List (List Int)) (v : Value) (a b : Int) (w : World) (hl : ArcL w v L) (hn : L.length ≤ 1000) :
    Calls Tryz.prog 190 #[v, .int .i64 a, .int .i64 b] w fun e w' => ∃ v', e = .returned v' ∧ ArcL w' v' (L ++ [[a, b]]) ∧ Below w.heap.size w w' := by
  obtain ⟨i0, hi, hz0, hz1, hz2⟩ := info_parts Tryz.infoArc
  have HTW := hid (arcs_two hl)
  obtain ⟨ao, c, rfl, hl⟩ := hl
  have HL := hid hl
  clear hl
  go_enter Tryz.func190, Tryz.ntmps190
  go_wp2_with fail
  go_loopw [7, 8] (fun ov i wr => ∃ k : Nat, i = .int .i64 k ∧ k ≤ L.length ∧ Hid (wr.ownsRow w.heap.size 191 2 ov k (ints (L.take k).flatten)) ∧ Hid (Below w.heap.size w wr)) (fun _ i _ => L.length - (intOf i).toNat)
  case atStart => exact ⟨0, rfl, Nat.zero_le _, World.ownsRow_nil _ _ _ _, Below.refl _ _⟩
  case round =>
    obtain ⟨k, rfl, hk, HO, HB⟩ := hrel
    have hbz := HB.out.size
    obtain ⟨av, cv, rfl, _, _⟩ := own_val HO.out
    by_cases hlt : k < L.length
    · obtain ⟨g, x, y, hao, hgl, hxy, hx, hy⟩ := HL.out k hlt
      subst hao
      have x0 : wr.cell? ⟨g, k * 2, none⟩ = _ := (HB.out.cell (by exact hgl)).trans hx
      have x1 : wr.cell? ⟨g, k * 2 + 1, none⟩ = _ := (HB.out.cell (by exact hgl)).trans hy
      have l0 : g < wr.heap.size := Nat.lt_of_lt_of_le hgl HB.out.size
      have HNX : Hid (ints (L.take (k + 1)).flatten = ints (L.take k).flatten ++ [.int .i64 x, .int .i64 y]) := by
        show _ = _
        rw [List.take_succ_eq_append_getElem hlt, hxy]; exact flat_two _ _ _
      have ik : (0 : Int) ≤ (k : Int) := by omega
      have jk : (k : Int) < (L.length : Int) := by omega
      clear hx hy hxy
      go_wp2_with (at_builtin; refine wpList_append_own _ rfl _ _ 186 rfl w.heap.size 191 i0 (.agg #[.int .i64 0, .int .i64 0]) 2 16 Tryz.underlying186 hi hz0 hz1 hz2 rfl (by decide) _ _ _ rfl (HO.out.alloc _) ⟨wr.heap.size, 0, none⟩ 1 1 [.int .i64 x, .int .i64 y] rfl rfl ?c1 ?c2 ?c3 ?c4 ?c5 ?_)
      case c1 => exact news_at rfl rfl
      case c2 => exact ints2 _ _
      case c3 => unfold maxLen; omega
      case c4 => omega
      case c5 => simp; omega
      intro v3 w3 hown3 hgr3 _
      have HO3 : Hid (w3.ownsRow w.heap.size 191 2 v3 (k + 1) (ints (L.take (k + 1)).flatten)) := by show World.ownsRow _ _ _ _ _ _ _; rw [HNX.out]; exact hown3
      have HB3 : Hid (Below w.heap.size w w3) := (HB.out.alloc hbz _).grown hgr3 (by simp; omega) (fun q hq => (HO.out.lt q hq).1)
      clear hown3 hgr3
      go_wp2
      go_roundw
      case rel => exact ⟨k + 1, by go_num, by omega, HO3, HB3⟩
      case measure => simp [intOf]; omega
    · obtain rfl : k = L.length := by omega
      rw [List.take_length] at HO
      go_wp2_with (at_builtin; refine wpList_append_own _ rfl _ _ 186 rfl w.heap.size 191 i0 (.agg #[.int .i64 0, .int .i64 0]) 2 16 Tryz.underlying186 hi hz0 hz1 hz2 rfl (by decide) _ _ _ rfl (HO.out.alloc _) ⟨wr.heap.size, 0, none⟩ 1 1 [.int .i64 a, .int .i64 b] rfl rfl ?c1 ?c2 ?c3 ?c4 ?c5 ?_)
      case c1 => exact news_at rfl rfl
      case c2 => exact ints2 _ _
      case c3 => unfold maxLen; omega
      case c4 => omega
      case c5 => simp; omega
      intro v3 w3 hown3 hgr3 _
      have HO3 : Hid (ArcL w3 v3 (L ++ [[a, b]])) := ArcL.own (B := w.heap.size) (by rw [List.length_append, flat_two]; exact hown3) (fun s hs => by rcases List.mem_append.1 hs with h | h; exact HTW.out s h; simp at h; rw [h]; rfl)
      have HB3 : Hid (Below w.heap.size w w3) := (HB.out.alloc hbz _).grown hgr3 (by simp; omega) (fun q hq => (HO.out.lt q hq).1)
      clear hown3 hgr3
      obtain ⟨a3, c3, rfl, _⟩ := HO3.out
      go_wp2
      go_ret
      exact ⟨_, rfl, HO3.out, HB3.out⟩
end Go.Proofs.YtebinaopncclgabGreatDoor
namespace Go.Proofs.YtebinaopncclgabGreatDoor
open Go.RowKit Go.IntWalk

theorem below3 (w : World) (a b c : Obj) : Below w.heap.size w (((w.alloc a).alloc b).alloc c) := (below2 w a b).trans ((below1 _ c).mono (by simp; omega))
theorem three_rows (w : World) (a b c : Obj) : (((w.alloc a).alloc b).alloc c).heap[w.heap.size]? = some a ∧ (((w.alloc a).alloc b).alloc c).heap[w.heap.size + 1]? = some b ∧ (((w.alloc a).alloc b).alloc c).heap[w.heap.size + 2]? = some c := by
  have s1 : (w.alloc a).heap.size = w.heap.size + 1 := by simp
  have s2 : ((w.alloc a).alloc b).heap.size = w.heap.size + 2 := by simp
  refine ⟨?_, ?_, ?_⟩
  · rw [Below.heap_alloc _ _ _ (by omega), Below.heap_alloc _ _ _ (by omega)]; exact heap_alloc_new w a
  · rw [Below.heap_alloc _ _ _ (by omega)]; have h := heap_alloc_new (w.alloc a) b; rw [s1] at h; exact h
  · have h := heap_alloc_new ((w.alloc a).alloc b) c; rw [s2] at h; exact h
theorem step_leaf {I : Ins} {cl : Option Int} {P : PathT} {nd : NodeT} (hk : nd.1 ≠ 1) {b : Bool} (h : b = true ↔ HoldZ I cl (tabP P) nd) : (stepW I cl P nd).isSome = b := by
  unfold stepW
  rw [if_neg hk]
  cases b with
  | true => rw [if_pos (h.1 rfl)]; rfl
  | false => rw [if_neg fun hh => by have := h.2 hh; cases this]; rfl
theorem hold_two {I : Ins} {cl : Option Int} {T : Nat → Nat → Int} {l : List Int} : HoldZ I cl T (2, l) ↔ ∃ c, cl = some c ∧ DualsZ I T c l := by
  unfold HoldZ; constructor
  · rintro (⟨_, h⟩ | ⟨h, _⟩ | ⟨h, _⟩)
    · exact h
    · cases h
    · cases h
  · exact fun h => .inl ⟨rfl, h⟩
theorem hold_three {I : Ins} {cl : Option Int} {T : Nat → Nat → Int} {l : List Int} : HoldZ I cl T (3, l) ↔ HallZ I T l := by
  unfold HoldZ; constructor
  · rintro (⟨h, _⟩ | ⟨_, h⟩ | ⟨h, _⟩)
    · cases h
    · exact h
    · cases h
  · exact fun h => .inr (.inl ⟨rfl, h⟩)
theorem hold_four {I : Ins} {cl : Option Int} {T : Nat → Nat → Int} {l : List Int} : HoldZ I cl T (4, l) ↔ ChainZ I T l := by
  unfold HoldZ; constructor
  · rintro (⟨h, _⟩ | ⟨h, _⟩ | ⟨_, h⟩)
    · cases h
    · cases h
    · exact h
  · exact fun h => .inr (.inr ⟨rfl, h⟩)
theorem chain_on {I : Ins} {P : PathT} (hP : PathOk I.n P) {l : List Int} (hne : 0 < l.length) : ChainZ I (tabP P) l ↔ chOk I.n (onP P) l ∧ BlockedQ I (l.map Int.toNat) := by
  constructor
  · intro h
    refine ⟨⟨h.sites, fun i hi => ⟨(on_iff hP).2 ⟨(h.sites _ (getD_mem (by omega))).1, (h.sites _ (getD_mem (by omega))).1, h.forced i hi⟩, fun h2 => h.ends i h2⟩⟩, h.blocked⟩
  · rintro ⟨⟨h1, h2⟩, h3⟩
    exact ⟨fun h => by rw [h] at hne; simp at hne, h1, fun i hi => (h2 i (by omega)).2 hi, fun i hi => ((on_iff hP).1 (h2 i hi).1).2.2, h3⟩
structure NodeArgs (r : Rd) (P : PathT) (w : World) (von voff vs vr vw v : Value) (zs : List Int) : Prop where
  ok : RdOk r
  path : PathOk r.stops.length P
  list : ListR w v zs
  cap : ∀ ao n c, v = .slice ao n c → n ≤ c
  on : ArcL w von (onP P)
  off : ArcL w voff (offP P)
  st : StR w vs r
  sq : SqR w vw (r.stops.length + 1) (siteD r)
  rd : ∃ ao n c, vr = .slice ao n c
theorem NodeArgs.below {r : Rd} {P : PathT} {w w' : World} {von voff vs vr vw v : Value} {zs : List Int} (h : NodeArgs r P w von voff vs vr vw v zs) (hb : Below w.heap.size w w') : NodeArgs r P w' von voff vs vr vw v zs :=
  ⟨h.ok, h.path, h.list.below hb, h.cap, h.on.below hb, h.off.below hb, h.st.below hb, h.sq.below hb, h.rd⟩

open Classical in
set_option maxRecDepth 100000 in
set_option maxHeartbeats 4000000 in
theorem holds_one (r : Rd) (P : PathT) (cl : Option Int) (x y : Int) (von voff vs vr vw v : Value) (w : World) (ha : NodeArgs r P w von voff vs vr vw v [x, y]) :
    Calls Tryz.prog 189 #[.agg (ground r vs vr vw), .agg (claimV cl), von, voff, .agg #[.int .i64 1, v]] w fun e w' => e = .returned (.bool (stepW (insOf r (siteD r)) cl P (1, [x, y])).isSome) ∧ Below w.heap.size w w' := by
  have hd := path_depth ha.ok.nstops ha.path
  have hln := on_len P
  obtain ⟨ast, cs, hvs, _⟩ := ha.st
  obtain ⟨a3, c3, hvw, _⟩ := ha.sq
  subst hvs hvw
  have HFI : Hid (∀ W, Below w.heap.size w W → Calls Tryz.prog 213 #[.agg (ground r (.slice ast r.stops.length cs) vr (.slice a3 (r.stops.length + 1) c3)), v] W fun e w' => e = .returned (.bool (decide (∀ z ∈ [x, y], 0 ≤ z ∧ z ≤ (r.stops.length : Int)))) ∧ Below W.heap.size W w') := fun W hW => rfits_any r v vr _ ast cs [x, y] W ha.ok.nstops (by simp) (ha.list.below hW) ha.rd ⟨_, _, _, rfl⟩
  have HON : Hid (∀ W, Below w.heap.size w W → Calls Tryz.prog 123 #[von, .int .i64 x, .int .i64 y] W fun e w' => e = .returned (.bool (decide ([x, y] ∈ onP P))) ∧ Below W.heap.size W w') := fun W hW => held_any (onP P) von x y W (ha.on.below hW) (by omega)
  have HOF : Hid (∀ W, Below w.heap.size w W → Calls Tryz.prog 123 #[voff, .int .i64 x, .int .i64 y] W fun e w' => e = .returned (.bool (decide ([x, y] ∈ offP P))) ∧ Below W.heap.size W w') := fun W hW => held_any (offP P) voff x y W (ha.off.below hW) (by omega)
  have HST := hid (step_branch (I := insOf r (siteD r)) (cl := cl) (P := P) ha.path (x := x) (y := y))
  have HSN : Hid ((insOf r (siteD r)).n = r.stops.length) := rfl
  have HEQ : Hid ((stepW (insOf r (siteD r)) cl P (1, [x, y])).isSome = (decide (∀ z ∈ [x, y], 0 ≤ z ∧ z ≤ (r.stops.length : Int)) && (x != y) && !decide ([x, y] ∈ onP P) && !decide ([x, y] ∈ offP P))) := by
    show _ = _
    rw [Bool.eq_iff_iff]
    simp only [Bool.and_eq_true, decide_eq_true_eq, bne_iff_ne, Bool.not_eq_true', decide_eq_false_iff_not]
    have hall : (∀ z ∈ [x, y], 0 ≤ z ∧ z ≤ (r.stops.length : Int)) ↔ (0 ≤ x ∧ x ≤ (r.stops.length : Int)) ∧ (0 ≤ y ∧ y ≤ (r.stops.length : Int)) := by simp
    rw [hall]
    by_cases hc : 0 ≤ x ∧ x ≤ (((insOf r (siteD r)).n : Nat) : Int) ∧ 0 ≤ y ∧ y ≤ (((insOf r (siteD r)).n : Nat) : Int) ∧ x ≠ y ∧ [x, y] ∉ onP P ∧ [x, y] ∉ offP P
    · rw [HST.out.1 hc]
      rw [HSN.out] at hc
      obtain ⟨h1, h2, h3, h4, h5, h6, h7⟩ := hc
      exact ⟨fun _ => ⟨⟨⟨⟨⟨h1, h2⟩, h3, h4⟩, h5⟩, h6⟩, h7⟩, fun _ => rfl⟩
    · rw [HST.out.2 hc]
      rw [HSN.out] at hc
      exact ⟨fun h => (by cases h), fun h => absurd ⟨h.1.1.1.1.1, h.1.1.1.1.2, h.1.1.1.2.1, h.1.1.1.2.2, h.1.1.2, h.1.2, h.2⟩ hc⟩
  obtain ⟨a4, c4, hv4, _⟩ := ha.on
  obtain ⟨a5, c5, hv5, _⟩ := ha.off
  obtain ⟨a6, c6, hv6, hz⟩ := ha.list
  subst hv4 hv5 hv6
  obtain ⟨g, rfl, hgl, z0⟩ := hz 0 (by simp)
  have z1 : w.cell? ⟨g, 1, none⟩ = some (.int .i64 y) := by obtain ⟨g', e', _, h⟩ := hz 1 (by simp); cases e'; exact h
  have z0 : w.cell? ⟨g, 0, none⟩ = some (.int .i64 x) := z0
  obtain ⟨a1, n1, c1, rfl⟩ := ha.rd
  have hl2 : ([x, y] : List Int).length = 2 := rfl
  rw [hl2] at HFI ⊢
  generalize decide (∀ z ∈ [x, y], 0 ≤ z ∧ z ≤ (r.stops.length : Int)) = b1 at *
  generalize decide ([x, y] ∈ onP P) = b2 at *
  generalize decide ([x, y] ∈ offP P) = b3 at *
  generalize (stepW (insOf r (siteD r)) cl P (1, [x, y])).isSome = ans at *
  obtain ⟨W, hW⟩ : ∃ W, W = ((w.alloc (.cells (ground r (.slice ast r.stops.length cs) (.slice a1 n1 c1) (.slice a3 (r.stops.length + 1) c3)) 109)).alloc (.cells (claimV cl) 197)).alloc (.cells #[.int .i64 1, .slice (some ⟨g, 0, none⟩) 2 c6] 76) := ⟨_, rfl⟩
  have HBW : Hid (Below w.heap.size w W) := by show Below _ _ _; rw [hW]; exact below3 w _ _ _
  have HWQ := hid hW
  have y0 : W.cell? ⟨g, 0, none⟩ = some (.int .i64 x) := (HBW.out.cell (by exact hgl)).trans z0
  have y1 : W.cell? ⟨g, 1, none⟩ = some (.int .i64 y) := (HBW.out.cell (by exact hgl)).trans z1
  have lg : g < W.heap.size := Nat.lt_of_lt_of_le hgl HBW.out.size
  clear ha hz hW z0 z1 HST HSN hl2 hln hd
  unfold ground claimV at *
  rw [HWQ.out] at y0 y1 lg
  go_enter Tryz.func189, Tryz.ntmps189
  go_wp2_with fail
  rw [← HWQ.out]
  refine (HFI.out _ HBW.out).mono ?_
  rintro e1 w1 ⟨rfl, hb1⟩
  have HB1 : Hid (Below w.heap.size w w1) := HBW.out.trans (hb1.mono HBW.out.size)
  clear hb1 HFI y0 y1 lg
  go_wp2_with fail
  refine (HON.out _ HB1.out).mono ?_
  rintro e2 w2 ⟨rfl, hb2⟩
  have HB2 : Hid (Below w.heap.size w w2) := HB1.out.trans (hb2.mono HB1.out.size)
  clear hb2 HON
  go_wp2_with fail
  refine (HOF.out _ HB2.out).mono ?_
  rintro e3 w3 ⟨rfl, hb3⟩
  have HB3 : Hid (Below w.heap.size w w3) := HB2.out.trans (hb3.mono HB2.out.size)
  clear hb3 HOF
  generalize hxy : (x != y) = b4 at *
  cases b1 <;> cases b4 <;> cases b2 <;> cases b3
  all_goals
    go_wp2_with fail
    go_ret
    exact ⟨ret_bool (by rw [HEQ.out]; rfl), by first | exact HB3.out | exact below_dn HB3.out _⟩
open Classical in
set_option maxRecDepth 100000 in
set_option maxHeartbeats 4000000 in
theorem holds_two (r : Rd) (P : PathT) (cl : Option Int) (zs : List Int) (von voff vs vr vw v : Value) (w : World) (ha : NodeArgs r P w von voff vs vr vw v zs) (hl : zs.length ≤ 20) (hbd : ∀ z ∈ zs, -100000000 ≤ z ∧ z ≤ 100000000) :
    Calls Tryz.prog 189 #[.agg (ground r vs vr vw), .agg (claimV cl), von, voff, .agg #[.int .i64 2, v]] w fun e w' => e = .returned (.bool (stepW (insOf r (siteD r)) cl P (2, zs)).isSome) ∧ Below w.heap.size w w' := by
  have HCD : Hid (∀ W, Below w.heap.size w W → Calls Tryz.prog 214 #[.agg (ground r vs vr vw), .agg (claimV cl), von, voff, v] W fun e w' => e = .returned (.bool (decide (∃ c, cl = some c ∧ DualsZ (insOf r (siteD r)) (tabP P) c zs))) ∧ Below W.heap.size W w') := fun W hW => by
    obtain ⟨ast, cs, hvs, _⟩ := ha.st
    have hb := ha.below hW
    exact rduals_any r P cl zs von voff vs vr vw v W ha.ok ha.path hl hbd hb.list ha.cap hb.on hb.off hb.sq ⟨_, _, hvs⟩ ha.rd
  have HEQ : Hid ((stepW (insOf r (siteD r)) cl P (2, zs)).isSome = decide (∃ c, cl = some c ∧ DualsZ (insOf r (siteD r)) (tabP P) c zs)) := step_leaf (nd := (2, zs)) (by show (2 : Int) ≠ 1; decide) (by rw [decide_eq_true_eq, hold_two])
  generalize decide (∃ c, cl = some c ∧ DualsZ (insOf r (siteD r)) (tabP P) c zs) = b1 at *
  generalize (stepW (insOf r (siteD r)) cl P (2, zs)).isSome = ans at *
  obtain ⟨ast, cs, hvs, _⟩ := ha.st
  obtain ⟨a3, c3, hvw, _⟩ := ha.sq
  obtain ⟨a4, c4, hv4, _⟩ := ha.on
  obtain ⟨a5, c5, hv5, _⟩ := ha.off
  obtain ⟨a6, c6, hv6, hz⟩ := ha.list
  obtain ⟨a1, n1, c1, hv1⟩ := ha.rd
  subst hvs hvw hv4 hv5 hv6 hv1
  obtain ⟨W, hW⟩ : ∃ W, W = ((w.alloc (.cells (ground r (.slice ast r.stops.length cs) (.slice a1 n1 c1) (.slice a3 (r.stops.length + 1) c3)) 109)).alloc (.cells (claimV cl) 197)).alloc (.cells #[.int .i64 2, .slice a6 zs.length c6] 76) := ⟨_, rfl⟩
  have HBW : Hid (Below w.heap.size w W) := by show Below _ _ _; rw [hW]; exact below3 w _ _ _
  have hrows := three_rows w (.cells (ground r (.slice ast r.stops.length cs) (.slice a1 n1 c1) (.slice a3 (r.stops.length + 1) c3)) 109) (.cells (claimV cl) 197) (.cells #[.int .i64 2, .slice a6 zs.length c6] 76)
  rw [← hW] at hrows
  have HROW := hid hrows
  have HWQ := hid hW
  clear ha hz hW hrows
  unfold ground claimV at *
  go_enter Tryz.func189, Tryz.ntmps189
  go_wp2_with fail
  rw [← HWQ.out]
  refine (HCD.out _ HBW.out).mono ?_
  rintro e1 w1 ⟨rfl, hb1⟩
  have HB1 : Hid (Below w.heap.size w w1) := HBW.out.trans (hb1.mono HBW.out.size)
  clear hb1 HCD
  go_wp2_with fail
  go_ret
  exact ⟨ret_bool HEQ.out.symm, HB1.out⟩

open Classical in
set_option maxRecDepth 100000 in
set_option maxHeartbeats 4000000 in
theorem holds_three (r : Rd) (P : PathT) (cl : Option Int) (zs : List Int) (von voff vs vr vw v : Value) (w : World) (ha : NodeArgs r P w von voff vs vr vw v zs) (hl : zs.length ≤ 20) :
    Calls Tryz.prog 189 #[.agg (ground r vs vr vw), .agg (claimV cl), von, voff, .agg #[.int .i64 3, v]] w fun e w' => e = .returned (.bool (stepW (insOf r (siteD r)) cl P (3, zs)).isSome) ∧ Below w.heap.size w w' := by
  have hv := vans_nat ha.ok
  have HCC : Hid (∀ W, Below w.heap.size w W → Calls Tryz.prog 124 #[.agg (ground r vs vr vw), von, voff] W fun e w' => ∃ x, e = .returned x ∧ SqR w' x (r.stops.length + r.vans.toNat) (cellQ (insOf r (siteD r)) (tabP P)) ∧ Below W.heap.size W w') := fun W hW => by
    obtain ⟨ast, cs, hvs, _⟩ := ha.st
    have hb := ha.below hW
    exact pcells_doc r P von voff vs vr vw W ha.ok ha.path hb.on hb.off hb.sq ⟨_, _, hvs⟩ ha.rd
  have HSH : Hid (∀ (x : Value) W, Below w.heap.size w W → SqR W x (r.stops.length + r.vans.toNat) (cellQ (insOf r (siteD r)) (tabP P)) → Calls Tryz.prog 116 #[x, v] W fun e w' => e = .returned (.bool (decide ((∀ i, i < zs.length → rowOk (r.stops.length + r.vans.toNat) zs i) ∧ hitsTo (cellQ (insOf r (siteD r)) (tabP P)) zs (r.stops.length + r.vans.toNat) < zs.length))) ∧ Below W.heap.size W w') := fun x W hW hsq => rshortE_any x v _ _ zs W (by omega) hl hsq (ha.list.below hW)
  have HEQ : Hid ((stepW (insOf r (siteD r)) cl P (3, zs)).isSome = decide ((∀ i, i < zs.length → rowOk (r.stops.length + r.vans.toNat) zs i) ∧ hitsTo (cellQ (insOf r (siteD r)) (tabP P)) zs (r.stops.length + r.vans.toNat) < zs.length)) := step_leaf (nd := (3, zs)) (by show (3 : Int) ≠ 1; decide) (by
    rw [decide_eq_true_eq, hold_three, ← rows_iff]
    exact ⟨fun h => ⟨h.1.1, h.1.2, h.2⟩, fun h => ⟨⟨h.rows, h.rising⟩, h.few⟩⟩)
  generalize decide ((∀ i, i < zs.length → rowOk (r.stops.length + r.vans.toNat) zs i) ∧ hitsTo (cellQ (insOf r (siteD r)) (tabP P)) zs (r.stops.length + r.vans.toNat) < zs.length) = b1 at *
  generalize cellQ (insOf r (siteD r)) (tabP P) = C at *
  generalize (stepW (insOf r (siteD r)) cl P (3, zs)).isSome = ans at *
  clear hv
  generalize r.stops.length + r.vans.toNat = N at *
  obtain ⟨ast, cs, hvs, _⟩ := ha.st
  obtain ⟨a3, c3, hvw, _⟩ := ha.sq
  obtain ⟨a4, c4, hv4, _⟩ := ha.on
  obtain ⟨a5, c5, hv5, _⟩ := ha.off
  obtain ⟨a6, c6, hv6, hz⟩ := ha.list
  obtain ⟨a1, n1, c1, hv1⟩ := ha.rd
  subst hvs hvw hv4 hv5 hv6 hv1
  obtain ⟨W, hW⟩ : ∃ W, W = ((w.alloc (.cells (ground r (.slice ast r.stops.length cs) (.slice a1 n1 c1) (.slice a3 (r.stops.length + 1) c3)) 109)).alloc (.cells (claimV cl) 197)).alloc (.cells #[.int .i64 3, .slice a6 zs.length c6] 76) := ⟨_, rfl⟩
  have HBW : Hid (Below w.heap.size w W) := by show Below _ _ _; rw [hW]; exact below3 w _ _ _
  have hrows := three_rows w (.cells (ground r (.slice ast r.stops.length cs) (.slice a1 n1 c1) (.slice a3 (r.stops.length + 1) c3)) 109) (.cells (claimV cl) 197) (.cells #[.int .i64 3, .slice a6 zs.length c6] 76)
  rw [← hW] at hrows
  have HROW := hid hrows
  have HWQ := hid hW
  clear ha hz hW hrows
  unfold ground claimV at *
  go_enter Tryz.func189, Tryz.ntmps189
  go_wp2_with fail
  rw [← HWQ.out]
  refine (HCC.out _ HBW.out).mono ?_
  rintro e1 w1 ⟨x1, rfl, hsq1, hb1⟩
  have HB1 : Hid (Below w.heap.size w w1) := HBW.out.trans (hb1.mono HBW.out.size)
  have hlk : w.heap.size + 2 < W.heap.size := (Array.getElem?_eq_some_iff.1 HROW.out.2.2).1
  have hbk : w1.heap[w.heap.size + 2]? = _ := (hb1.block _ hlk).trans HROW.out.2.2
  have m1 : w1.cell? ⟨w.heap.size + 2, 1, none⟩ = some (.slice a6 zs.length c6) := cell_of_row w1 _ 1 _ _ _ hbk
  have m1' : w1.cell? ⟨w.heap.size + 1 + 1, 1, none⟩ = some (.slice a6 zs.length c6) := m1
  have HSQ1 := hid hsq1
  obtain ⟨ax, cx, rfl, _⟩ := hsq1
  clear hb1 HCC hbk
  go_wp2_with fail
  refine (HSH.out _ _ HB1.out HSQ1.out).mono ?_
  rintro e2 w2 ⟨rfl, hb2⟩
  have HB2 : Hid (Below w.heap.size w w2) := HB1.out.trans (hb2.mono HB1.out.size)
  clear hb2 HSH
  go_wp2_with fail
  go_ret
  exact ⟨ret_bool HEQ.out.symm, HB2.out⟩

open Classical in
set_option maxRecDepth 100000 in
set_option maxHeartbeats 4000000 in
theorem holds_four (r : Rd) (P : PathT) (cl : Option Int) (zs : List Int) (von voff vs vr vw v : Value) (w : World) (ha : NodeArgs r P w von voff vs vr vw v zs) (hl : zs.length ≤ 20) (hne : 0 < zs.length) :
    Calls Tryz.prog 189 #[.agg (ground r vs vr vw), .agg (claimV cl), von, voff, .agg #[.int .i64 4, v]] w fun e w' => e = .returned (.bool (stepW (insOf r (siteD r)) cl P (4, zs)).isSome) ∧ Below w.heap.size w w' := by
  have hd := path_depth ha.ok.nstops ha.path
  have hln := on_len P
  have HCH : Hid (∀ W, Below w.heap.size w W → Calls Tryz.prog 215 #[.agg (ground r vs vr vw), von, v] W fun e w' => e = .returned (.bool (decide (chOk r.stops.length (onP P) zs))) ∧ Below W.heap.size W w') := fun W hW => by
    obtain ⟨ast, cs, hvs, _⟩ := ha.st
    obtain ⟨a3, c3, hvw, _⟩ := ha.sq
    have hb := ha.below hW
    subst hvs
    exact rchained_any r (onP P) von v vr vw ast cs zs W ha.ok.nstops hl hb.list hb.on (by omega) ha.rd ⟨_, _, _, hvw⟩
  have HHP : Hid (chOk r.stops.length (onP P) zs → ∀ W, Below w.heap.size w W → Calls Tryz.prog 216 #[.agg (ground r vs vr vw), v] W fun e w' => e = .returned (.bool (decide (BlockedQ (insOf r (siteD r)) (zs.map Int.toNat)))) ∧ Below W.heap.size W w') := fun hc W hW => by
    have hb := ha.below hW
    obtain ⟨a6, c6, hv6, hz⟩ := hb.list
    obtain ⟨g, rfl, hgl, _⟩ := hz 0 hne
    subst hv6
    exact rhopeless_any r vs vr vw g c6 zs W ha.ok hb.st hb.sq hl hne hgl (fun j hj => by obtain ⟨g', e', _, h⟩ := hz j hj; cases e'; rw [h, getD_get hj]) (fun x hx => by have := hc.1 x hx; omega) ha.rd
  have HEQ : Hid ((stepW (insOf r (siteD r)) cl P (4, zs)).isSome = (decide (chOk r.stops.length (onP P) zs) && decide (BlockedQ (insOf r (siteD r)) (zs.map Int.toNat)))) := step_leaf (nd := (4, zs)) (by show (4 : Int) ≠ 1; decide) (by
    rw [Bool.and_eq_true, decide_eq_true_eq, decide_eq_true_eq, hold_four]
    exact (chain_on (I := insOf r (siteD r)) ha.path hne).symm)
  have HCB : Hid (decide (chOk r.stops.length (onP P) zs) = true → chOk r.stops.length (onP P) zs) := fun h => of_decide_eq_true h
  generalize decide (BlockedQ (insOf r (siteD r)) (zs.map Int.toNat)) = b2 at *
  generalize decide (chOk r.stops.length (onP P) zs) = b1 at *
  generalize (stepW (insOf r (siteD r)) cl P (4, zs)).isSome = ans at *
  obtain ⟨ast, cs, hvs, _⟩ := ha.st
  obtain ⟨a3, c3, hvw, _⟩ := ha.sq
  obtain ⟨a4, c4, hv4, _⟩ := ha.on
  obtain ⟨a5, c5, hv5, _⟩ := ha.off
  obtain ⟨a6, c6, hv6, hz⟩ := ha.list
  obtain ⟨a1, n1, c1, hv1⟩ := ha.rd
  subst hvs hvw hv4 hv5 hv6 hv1
  obtain ⟨W, hW⟩ : ∃ W, W = ((w.alloc (.cells (ground r (.slice ast r.stops.length cs) (.slice a1 n1 c1) (.slice a3 (r.stops.length + 1) c3)) 109)).alloc (.cells (claimV cl) 197)).alloc (.cells #[.int .i64 4, .slice a6 zs.length c6] 76) := ⟨_, rfl⟩
  have HBW : Hid (Below w.heap.size w W) := by show Below _ _ _; rw [hW]; exact below3 w _ _ _
  have hrows := three_rows w (.cells (ground r (.slice ast r.stops.length cs) (.slice a1 n1 c1) (.slice a3 (r.stops.length + 1) c3)) 109) (.cells (claimV cl) 197) (.cells #[.int .i64 4, .slice a6 zs.length c6] 76)
  rw [← hW] at hrows
  have HROW := hid hrows
  have HWQ := hid hW
  clear ha hz hW hrows hln hd
  cases b1 with
  | false =>
    unfold ground claimV at *
    go_enter Tryz.func189, Tryz.ntmps189
    go_wp2_with fail
    rw [← HWQ.out]
    refine (HCH.out _ HBW.out).mono ?_
    rintro e1 w1 ⟨rfl, hb1⟩
    have HB1 : Hid (Below w.heap.size w w1) := HBW.out.trans (hb1.mono HBW.out.size)
    clear hb1 HCH
    go_wp2_with fail
    go_ret
    exact ⟨ret_bool HEQ.out.symm, HB1.out⟩
  | true =>
    have HHQ := hid (HHP.out (HCB.out rfl))
    have HRG : Hid (∀ W', Below W.heap.size W W' → W'.cell? ⟨w.heap.size + 2, 1, none⟩ = some (.slice a6 zs.length c6) ∧ W'.cell? ⟨w.heap.size, 0, none⟩ = some (.int .i64 r.vans) ∧ W'.cell? ⟨w.heap.size, 1, none⟩ = some (.int .i64 r.load) ∧ W'.cell? ⟨w.heap.size, 2, none⟩ = some (.int .i64 r.close) ∧ W'.cell? ⟨w.heap.size, 3, none⟩ = some (.int .i64 r.nodes) ∧ W'.cell? ⟨w.heap.size, 4, none⟩ = some (.int .i64 r.home) ∧ W'.cell? ⟨w.heap.size, 5, none⟩ = some (.slice ast r.stops.length cs) ∧ W'.cell? ⟨w.heap.size, 6, none⟩ = some (.slice a1 n1 c1) ∧ W'.cell? ⟨w.heap.size, 7, none⟩ = some (.slice a3 (r.stops.length + 1) c3) ∧ w.heap.size + 2 < W'.heap.size) := fun W' hb => by
      have hlk : w.heap.size + 2 < W.heap.size := (Array.getElem?_eq_some_iff.1 HROW.out.2.2).1
      have h1 := (hb.block _ hlk).trans HROW.out.2.2
      have h2 := (hb.block _ (show w.heap.size < W.heap.size by omega)).trans HROW.out.1
      refine ⟨cell_of_row W' _ 1 _ _ _ h1, ?_, ?_, ?_, ?_, ?_, ?_, ?_, ?_, Nat.lt_of_lt_of_le hlk hb.size⟩ <;> (rw [cell_of_row W' _ _ _ _ _ h2]; rfl)
    clear HHP HCB HROW
    unfold ground claimV at *
    go_enter Tryz.func189, Tryz.ntmps189
    go_wp2_with fail
    rw [← HWQ.out]
    refine (HCH.out _ HBW.out).mono ?_
    rintro e1 w1 ⟨rfl, hb1⟩
    have HB1 : Hid (Below w.heap.size w w1) := HBW.out.trans (hb1.mono HBW.out.size)
    obtain ⟨m1, q0, q1, q2, q3, q4, q5, q6, q7, ql⟩ := HRG.out w1 hb1
    have m1' : w1.cell? ⟨w.heap.size + 1 + 1, 1, none⟩ = some (.slice a6 zs.length c6) := m1
    clear hb1 HCH HRG
    go_wp2_with fail
    refine (HHQ.out _ HB1.out).mono ?_
    rintro e2 w2 ⟨rfl, hb2⟩
    have HB2 : Hid (Below w.heap.size w w2) := HB1.out.trans (hb2.mono HB1.out.size)
    clear hb2 HHQ
    go_wp2_with fail
    go_ret
    exact ⟨ret_bool HEQ.out.symm, HB2.out⟩
theorem rholds_any (r : Rd) (P : PathT) (cl : Option Int) (nd : NodeT) (von voff vs vr vw v : Value) (w : World) (ha : NodeArgs r P w von voff vs vr vw v nd.2) (hn : nodeOkT nd = true) :
    Calls Tryz.prog 189 #[.agg (ground r vs vr vw), .agg (claimV cl), von, voff, .agg #[.int .i64 nd.1, v]] w fun e w' => e = .returned (.bool (stepW (insOf r (siteD r)) cl P nd).isSome) ∧ Below w.heap.size w w' := by
  obtain ⟨k, zs⟩ := nd
  obtain ⟨h1, h2⟩ := nodeOk_parts hn
  dsimp only at h1 h2 ha ⊢
  rcases cntT_kind h1 with ⟨rfl, hl⟩ | ⟨rfl, _, _, hl⟩ | ⟨rfl, _, hl⟩ | ⟨rfl, h0, hl⟩
  · match zs, hl, ha with
    | [x, y], _, ha => exact holds_one r P cl x y von voff vs vr vw v w ha
  · exact holds_two r P cl zs von voff vs vr vw v w ha hl h2
  · exact holds_three r P cl zs von voff vs vr vw v w ha (by omega)
  · exact holds_four r P cl zs von voff vs vr vw v w ha (by omega) h0
end Go.Proofs.YtebinaopncclgabGreatDoor
namespace Go.Proofs.YtebinaopncclgabGreatDoor
open Go.RowKit Go.IntWalk

theorem own_capt {w : World} {v : Value} {B n size : Nat} {e : TypeId} {xs : List Value} (h : w.ownsRow B e size v n xs) : ∀ ao m c, v = .slice ao m c → m ≤ c := by
  intro ao m c hv
  rcases h.2 with ⟨h1, h0⟩ | ⟨g, cap, cur, h1, hb, hg, hc, _⟩
  · rw [h1] at hv; cases hv; exact Nat.le_refl _
  · rw [h1] at hv; cases hv; exact hc
theorem NodesR.atc {w : World} {B : Nat} {v : Value} {L : List NodeT} (h : NodesR w B v L) {i : Nat} (hi : i < L.length) : ∃ g c ao c', v = .slice (some ⟨g, 0, none⟩) L.length c ∧ g < w.heap.size ∧ w.cell? ⟨g, i * 2, none⟩ = some (.int .i64 L[i].1) ∧ w.cell? ⟨g, i * 2 + 1, none⟩ = some (.slice ao L[i].2.length c') ∧ ListR w (.slice ao L[i].2.length c') L[i].2 ∧ L[i].2.length ≤ c' := by
  obtain ⟨us, h1, h2, h3⟩ := h
  obtain ⟨g, cap, cur, rfl, hb, hg, _⟩ := own_shape h2 (by omega)
  obtain ⟨k1, k2⟩ := cellsN_at L us h1 i hi
  obtain ⟨ao, c', hv, _, _⟩ := own_val (h3 i hi)
  have h4 := h3 i hi
  rw [hv] at h4 k2
  exact ⟨g, cap, ao, c', rfl, (Array.getElem?_eq_some_iff.1 hg).1, by rw [h2.cellAt (i * 2) (by omega)]; exact k1, by rw [h2.cellAt (i * 2 + 1) (by omega)]; exact k2, ListR.own h4, own_capt h4 _ _ _ rfl⟩
structure TreeArgs (r : Rd) (L : List NodeT) (B : Nat) (w : World) (vs vr vw vl : Value) : Prop where
  ok : RdOk r
  nodes : NodesR w B vl L
  st : StR w vs r
  sq : SqR w vw (r.stops.length + 1) (siteD r)
  rd : ∃ ao n c, vr = .slice ao n c
theorem TreeArgs.below {r : Rd} {L : List NodeT} {B : Nat} {w w' : World} {vs vr vw vl : Value} (h : TreeArgs r L B w vs vr vw vl) (hb : Below w.heap.size w w') : TreeArgs r L B w' vs vr vw vl :=
  ⟨h.ok, h.nodes.below hb, h.st.below hb, h.sq.below hb, h.rd⟩

set_option maxRecDepth 100000 in
set_option maxHeartbeats 8000000 in
theorem rfirst_any (r : Rd) (cl : Option Int) (L : List NodeT) (B : Nat) (vs vr vw vl : Value) (hLL : L.length ≤ 2000001) : ∀ (n i k : Nat) (P : PathT) (von voff : Value) (w : World), L.length - i ≤ n → PathOk r.stops.length P → treeT (k + 1) (L.drop i) = true → TreeArgs r L B w vs vr vw vl → ArcL w von (onP P) → ArcL w voff (offP P) →
    Calls Tryz.prog 128 #[.agg (ground r vs vr vw), .agg (claimV cl), von, voff, vl, .int .i64 i] w fun e w' => ∃ bad next : Nat, e = .returned (.tuple #[.int .i64 bad, .int .i64 next]) ∧ FirstOk (insOf r (siteD r)) cl L P i k bad next ∧ Below w.heap.size w w' := by
  intro n
  induction n with
  | zero =>
    intro i k P von voff w hn hP ht _ _ _
    obtain ⟨hi, _⟩ := tree_cons ht
    omega
  | succ n IH =>
    intro i k P von voff w hn hP ht ha hon hoff
    obtain ⟨hi, hdr, hnd, htn⟩ := tree_cons ht
    obtain ⟨g, cg, al, cl', hvl, hgl, x0, x1, hlr, hcap⟩ := ha.nodes.atc hi
    have HGI : Hid (L[i]? = some L[i]) := List.getElem?_eq_getElem hi
    generalize L[i] = nd at *
    have hd := path_depth ha.ok.nstops hP
    have hln := on_len P
    have HHO : Hid (∀ W, Below w.heap.size w W → Calls Tryz.prog 189 #[.agg (ground r vs vr vw), .agg (claimV cl), von, voff, .agg #[.int .i64 nd.1, .slice al nd.2.length cl']] W fun e w' => e = .returned (.bool (stepW (insOf r (siteD r)) cl P nd).isSome) ∧ Below W.heap.size W w') := fun W hW => rholds_any r P cl nd von voff vs vr vw _ W ⟨ha.ok, hP, hlr.below hW, (fun ao m c e => by cases e; exact hcap), hon.below hW, hoff.below hW, ha.st.below hW, ha.sq.below hW, ha.rd⟩ hnd
    have HA := hid ha
    have HON := hid hon
    have HOF := hid hoff
    have HLR := hid hlr
    have HT := hid ht
    obtain ⟨ast, cs, hvs, _⟩ := ha.st
    obtain ⟨a3, c3, hvw, _⟩ := ha.sq
    obtain ⟨a4, c4, hv4, _⟩ := hon
    obtain ⟨a5, c5, hv5, _⟩ := hoff
    obtain ⟨a1, n1, c1, hv1⟩ := ha.rd
    subst hvs hvw hv4 hv5 hv1 hvl
    obtain ⟨W, hW⟩ : ∃ W, W = ((w.alloc (.cells (ground r (.slice ast r.stops.length cs) (.slice a1 n1 c1) (.slice a3 (r.stops.length + 1) c3)) 109)).alloc (.cells (claimV cl) 197)).alloc (.cells #[.int .i64 nd.1, .slice al nd.2.length cl'] 76) := ⟨_, rfl⟩
    have HBW : Hid (Below w.heap.size w W) := by show Below _ _ _; rw [hW]; exact below3 w _ _ _
    have hrows := three_rows w (.cells (ground r (.slice ast r.stops.length cs) (.slice a1 n1 c1) (.slice a3 (r.stops.length + 1) c3)) 109) (.cells (claimV cl) 197) (.cells #[.int .i64 nd.1, .slice al nd.2.length cl'] 76)
    rw [← hW] at hrows
    have HRG : Hid (∀ W', Below W.heap.size W W' → W'.cell? ⟨w.heap.size + 2, 0, none⟩ = some (.int .i64 nd.1) ∧ W'.cell? ⟨w.heap.size + 2, 1, none⟩ = some (.slice al nd.2.length cl') ∧ W'.cell? ⟨w.heap.size, 0, none⟩ = some (.int .i64 r.vans) ∧ W'.cell? ⟨w.heap.size, 1, none⟩ = some (.int .i64 r.load) ∧ W'.cell? ⟨w.heap.size, 2, none⟩ = some (.int .i64 r.close) ∧ W'.cell? ⟨w.heap.size, 3, none⟩ = some (.int .i64 r.nodes) ∧ W'.cell? ⟨w.heap.size, 4, none⟩ = some (.int .i64 r.home) ∧ W'.cell? ⟨w.heap.size, 5, none⟩ = some (.slice ast r.stops.length cs) ∧ W'.cell? ⟨w.heap.size, 6, none⟩ = some (.slice a1 n1 c1) ∧ W'.cell? ⟨w.heap.size, 7, none⟩ = some (.slice a3 (r.stops.length + 1) c3) ∧ W'.cell? ⟨w.heap.size + 1, 0, none⟩ = some (.bool cl.isSome) ∧ W'.cell? ⟨w.heap.size + 1, 1, none⟩ = some (.int .i64 (cl.getD 0)) ∧ w.heap.size + 2 < W'.heap.size) := fun W' hb => by
      have hlk : w.heap.size + 2 < W.heap.size := (Array.getElem?_eq_some_iff.1 hrows.2.2).1
      have h1 := (hb.block _ hlk).trans hrows.2.2
      have h2 := (hb.block _ (show w.heap.size < W.heap.size by omega)).trans hrows.1
      have h3 := (hb.block _ (show w.heap.size + 1 < W.heap.size by omega)).trans hrows.2.1
      refine ⟨cell_of_row W' _ 0 _ _ _ h1, cell_of_row W' _ 1 _ _ _ h1, ?_, ?_, ?_, ?_, ?_, ?_, ?_, ?_, cell_of_row W' _ 0 _ _ _ h3, cell_of_row W' _ 1 _ _ _ h3, Nat.lt_of_lt_of_le hlk hb.size⟩ <;> (rw [cell_of_row W' _ _ _ _ _ h2]; rfl)
    have HWQ := hid hW
    have ii : (0 : Int) ≤ (i : Int) := by omega
    have ji : (i : Int) < (L.length : Int) := by omega
    clear ha hrows hW hlr
    cases hst : stepW (insOf r (siteD r)) cl P nd with
    | none =>
      have HF : Hid (FirstOk (insOf r (siteD r)) cl L P i k (i + 1) i) := first_bad HT.out HGI.out hst
      rw [hst, Option.isSome_none] at HHO
      clear hst IH
      unfold ground claimV at *
      go_enter Tryz.func128, Tryz.ntmps128
      go_wp2_with fail
      rw [← HWQ.out]
      refine (HHO.out _ HBW.out).mono ?_
      rintro e1 w1 ⟨rfl, hb1⟩
      have HB1 : Hid (Below w.heap.size w w1) := HBW.out.trans (hb1.mono HBW.out.size)
      clear hb1 HHO
      go_wp2_with fail
      refine bodyPost_ret (v := .tuple #[.int .i64 ((i : Int) + 1), .int .i64 i]) (by simp [results, Tryz.results128, go_sem]) rfl ?_
      exact ⟨i + 1, i, rfl, HF.out, HB1.out⟩
    | some P' =>
      by_cases hk : nd.1 = 1
      · obtain ⟨kk, zs⟩ := nd
        dsimp only at hk hnd hcap x0 x1 HLR HRG HHO HWQ htn
        subst hk
        have hz2 : zs.length = 2 := by
          obtain ⟨h1, _⟩ := nodeOk_parts hnd
          rcases cntT_kind h1 with ⟨_, h⟩ | ⟨h, _⟩ | ⟨h, _⟩ | ⟨h, _⟩
          · exact h
          · cases h
          · cases h
          · cases h
        obtain ⟨x, y, rfl⟩ : ∃ x y, zs = [x, y] := by
          match zs, hz2 with
          | [a, b], _ => exact ⟨a, b, rfl⟩
        have hsb := step_branch (I := insOf r (siteD r)) (cl := cl) (P := P) hP (x := x) (y := y)
        have hcc : 0 ≤ x ∧ 0 ≤ y ∧ P' = ((x.toNat, y.toNat), true) :: P := by
          by_cases hc : 0 ≤ x ∧ x ≤ (((insOf r (siteD r)).n : Nat) : Int) ∧ 0 ≤ y ∧ y ≤ (((insOf r (siteD r)).n : Nat) : Int) ∧ x ≠ y ∧ [x, y] ∉ onP P ∧ [x, y] ∉ offP P
          · have h := hsb.1 hc
            rw [hst] at h
            exact ⟨hc.1, hc.2.2.1, by injection h⟩
          · rw [hsb.2 hc] at hst; cases hst
        obtain ⟨hx0, hy0, rfl⟩ := hcc
        have hP1 : PathOk r.stops.length (((x.toNat, y.toNat), true) :: P) := path_step (I := insOf r (siteD r)) hP hst
        have hP2 : PathOk r.stops.length (((x.toNat, y.toNat), false) :: P) := by cases hP1 with | cons h1 h2 h3 h4 h5 => exact .cons h1 h2 h3 h4 h5
        have e1 : onP (((x.toNat, y.toNat), true) :: P) = onP P ++ [[x, y]] := by rw [on_true, Int.toNat_of_nonneg hx0, Int.toNat_of_nonneg hy0]
        have e2 : offP (((x.toNat, y.toNat), false) :: P) = offP P ++ [[x, y]] := by rw [off_false, Int.toNat_of_nonneg hx0, Int.toNat_of_nonneg hy0]
        obtain ⟨hb1, hb2, hb3⟩ := first_branch HT.out HGI.out rfl hst
        have HB1' := hid hb2
        have HB2' := hid hb3
        have HIH1 : Hid (∀ (von1 : Value) W, Below w.heap.size w W → ArcL W von1 (onP P ++ [[x, y]]) → Calls Tryz.prog 128 #[.agg (ground r (.slice ast r.stops.length cs) (.slice a1 n1 c1) (.slice a3 (r.stops.length + 1) c3)), .agg (claimV cl), von1, .slice a5 (offP P).length c5, .slice (some ⟨g, 0, none⟩) L.length cg, .int .i64 ((i : Int) + 1)] W fun e w' => ∃ bad next : Nat, e = .returned (.tuple #[.int .i64 bad, .int .i64 next]) ∧ FirstOk (insOf r (siteD r)) cl L (((x.toNat, y.toNat), true) :: P) (i + 1) (k + 1) bad next ∧ Below W.heap.size W w') := fun von1 W hW hv => IH (i + 1) (k + 1) _ von1 _ W (by omega) hP1 hb1 (HA.out.below hW) (by rw [e1]; exact hv) (HOF.out.below hW)
        have HIH2 : Hid (∀ (voff1 : Value) (nx : Nat) W, Below w.heap.size w W → ArcL W voff1 (offP P ++ [[x, y]]) → i < nx → treeT (k + 1) (L.drop nx) = true → Calls Tryz.prog 128 #[.agg (ground r (.slice ast r.stops.length cs) (.slice a1 n1 c1) (.slice a3 (r.stops.length + 1) c3)), .agg (claimV cl), .slice a4 (onP P).length c4, voff1, .slice (some ⟨g, 0, none⟩) L.length cg, .int .i64 nx] W fun e w' => ∃ bad next : Nat, e = .returned (.tuple #[.int .i64 bad, .int .i64 next]) ∧ FirstOk (insOf r (siteD r)) cl L (((x.toNat, y.toNat), false) :: P) nx k bad next ∧ Below W.heap.size W w') := fun voff1 nx W hW hv hnx htt => IH nx k _ _ voff1 W (by omega) hP2 htt (HA.out.below hW) (HON.out.below hW) (by rw [e2]; exact hv)
        have HMO : Hid (∀ W, Below w.heap.size w W → Calls Tryz.prog 190 #[.slice a4 (onP P).length c4, .int .i64 x, .int .i64 y] W fun e w' => ∃ v', e = .returned v' ∧ ArcL w' v' (onP P ++ [[x, y]]) ∧ Below W.heap.size W w') := fun W hW => rmore_any (onP P) _ x y W (HON.out.below hW) (by omega)
        have HMF : Hid (∀ W, Below w.heap.size w W → Calls Tryz.prog 190 #[.slice a5 (offP P).length c5, .int .i64 x, .int .i64 y] W fun e w' => ∃ v', e = .returned v' ∧ ArcL w' v' (offP P ++ [[x, y]]) ∧ Below W.heap.size W w') := fun W hW => rmore_any (offP P) _ x y W (HOF.out.below hW) (by omega)
        obtain ⟨gl, rfl, hgll, z0, z1⟩ : ∃ gl, al = some ⟨gl, 0, none⟩ ∧ gl < w.heap.size ∧ w.cell? ⟨gl, 0, none⟩ = some (.int .i64 x) ∧ w.cell? ⟨gl, 1, none⟩ = some (.int .i64 y) := by
          obtain ⟨ao', c', hv', hz'⟩ := HLR.out
          cases hv'
          obtain ⟨gl, e3, h3, h4⟩ := hz' 0 (by simp)
          obtain ⟨gl', e4, _, h5⟩ := hz' 1 (by simp)
          subst e3
          cases e4
          exact ⟨gl, rfl, h3, h4, h5⟩
        rw [hst, Option.isSome_some] at HHO
        have hl2 : ([x, y] : List Int).length = 2 := rfl
        rw [hl2] at HHO HRG HWQ x1
        clear hst IH hsb hP1 hP2 e1 e2 hb1 hb2 hb3 HLR hnd hcap htn hdr HGI ht hz2 hl2
        unfold ground claimV at *
        go_enter Tryz.func128, Tryz.ntmps128
        go_wp2_with fail
        rw [← HWQ.out]
        refine (HHO.out _ HBW.out).mono ?_
        rintro e1 w1 ⟨rfl, hb1⟩
        have HWB1 := hid hb1
        have HB1 : Hid (Below w.heap.size w w1) := HBW.out.trans (hb1.mono HBW.out.size)
        obtain ⟨m0, m1, q0, q1, q2, q3, q4, q5, q6, q7, d0, d1, ql⟩ := HRG.out w1 hb1
        have y0 : w1.cell? ⟨gl, 0, none⟩ = _ := (HB1.out.cell (by exact hgll)).trans z0
        have y1 : w1.cell? ⟨gl, 1, none⟩ = _ := (HB1.out.cell (by exact hgll)).trans z1
        have lg1 : gl < w1.heap.size := Nat.lt_of_lt_of_le hgll HB1.out.size
        clear hb1 HHO
        have HCM2 : Hid (∀ W', Below w1.heap.size w1 W' → Calls Tryz.prog 190 #[.slice a4 (onP P).length c4, .int .i64 x, .int .i64 y] W' fun e w' => ∃ (a7 : Option Addr) (c7 : Nat), e = .returned (.slice a7 (onP P ++ [[x, y]]).length c7) ∧ w'.cell? ⟨w.heap.size + 2, 1, none⟩ = some (.slice (some ⟨gl, 0, none⟩) 2 cl') ∧ w'.cell? ⟨gl, 0, none⟩ = some (.int .i64 x) ∧ w'.cell? ⟨gl, 1, none⟩ = some (.int .i64 y) ∧ Hid (ArcL w' (.slice a7 (onP P ++ [[x, y]]).length c7) (onP P ++ [[x, y]]) ∧ Below W.heap.size W w')) := fun W' hb => by
          have hWW : Below W.heap.size W W' := HWB1.out.trans (hb.mono HWB1.out.size)
          refine (HMO.out W' (HBW.out.trans (hWW.mono HBW.out.size))).mono ?_
          rintro e w' ⟨v', h1, h2, h3⟩
          have h4 : Below W.heap.size W w' := hWW.trans (h3.mono hWW.size)
          have h5 : Below w.heap.size w w' := HBW.out.trans (h4.mono HBW.out.size)
          obtain ⟨a7, c7, hv7, h6⟩ := h2
          subst hv7
          exact ⟨a7, c7, h1, (HRG.out w' h4).2.1, (h5.cell (by exact hgll)).trans z0, (h5.cell (by exact hgll)).trans z1, ⟨⟨a7, c7, rfl, h6⟩, h4⟩⟩
        go_wp2_with fail
        go_region_held3 (fun w' => w'.cell? ⟨w.heap.size + 2, 1, none⟩ = some (.slice (some ⟨gl, 0, none⟩) 2 cl') ∧ w'.cell? ⟨gl, 0, none⟩ = some (.int .i64 x) ∧ w'.cell? ⟨gl, 1, none⟩ = some (.int .i64 y)) (go_keep) (first | (go_at_call 190; refine (HCM2.out _ (by first | exact Below.refl _ _ | exact (Below.refl _ _).drew)).mono ?_; rintro e2 w2 ⟨a72, c72, rfl, s12, s22, s32, HF2⟩))
        have HAR2 := hid HF2.out.1
        have HWB2 := hid HF2.out.2
        clear HCM2 HF2 s12 s22 s32 m0 m1 q0 q1 q2 q3 q4 q5 q6 q7 d0 d1 ql y0 y1 lg1
        have HB2 : Hid (Below w.heap.size w w2) := HBW.out.trans (HWB2.out.mono HBW.out.size)
        obtain ⟨m0, m1, q0, q1, q2, q3, q4, q5, q6, q7, d0, d1, ql⟩ := HRG.out w2 HWB2.out
        have y0 : w2.cell? ⟨gl, 0, none⟩ = _ := (HB2.out.cell (by exact hgll)).trans z0
        have y1 : w2.cell? ⟨gl, 1, none⟩ = _ := (HB2.out.cell (by exact hgll)).trans z1
        have lg1 : gl < w2.heap.size := Nat.lt_of_lt_of_le hgll HB2.out.size
        have HAR2' : Hid (ArcL w2 (.slice a72 ((onP P).length + 1) c72) (onP P ++ [[x, y]])) := by have h := HAR2.out; rw [List.length_append] at h; exact h
        go_wp2_with fail
        refine (HIH1.out _ w2 HB2.out HAR2'.out).mono ?_
        rintro e3 w3 ⟨bad, next, rfl, hf3, hb3⟩
        have HF3 := hid hf3
        have HWB3 : Hid (Below W.heap.size W w3) := HWB2.out.trans (hb3.mono HWB2.out.size)
        have HB3 : Hid (Below w.heap.size w w3) := HBW.out.trans (HWB3.out.mono HBW.out.size)
        clear hf3 hb3 HIH1 HAR2 HAR2' m0 m1 q0 q1 q2 q3 q4 q5 q6 q7 d0 d1 ql y0 y1 lg1
        obtain ⟨m0, m1, q0, q1, q2, q3, q4, q5, q6, q7, d0, d1, ql⟩ := HRG.out w3 HWB3.out
        have y0 : w3.cell? ⟨gl, 0, none⟩ = _ := (HB3.out.cell (by exact hgll)).trans z0
        have y1 : w3.cell? ⟨gl, 1, none⟩ = _ := (HB3.out.cell (by exact hgll)).trans z1
        have lg1 : gl < w3.heap.size := Nat.lt_of_lt_of_le hgll HB3.out.size
        by_cases hbd : bad = 0
        · subst hbd
          obtain ⟨ht3, hi3, hn3, _⟩ := HB2'.out next 0 0 HF3.out
          have HTT := hid ht3
          have HFC : Hid (∀ bad' next', FirstOk (insOf r (siteD r)) cl L (((x.toNat, y.toNat), false) :: P) next k bad' next' → FirstOk (insOf r (siteD r)) cl L P i k bad' next') := fun bad' next' h => (HB2'.out next bad' next' HF3.out).2.2.2 h
          clear ht3 HB1' HB2' HF3
          have HCM4 : Hid (∀ W', Below w3.heap.size w3 W' → Calls Tryz.prog 190 #[.slice a5 (offP P).length c5, .int .i64 x, .int .i64 y] W' fun e w' => ∃ (a7 : Option Addr) (c7 : Nat), e = .returned (.slice a7 (offP P ++ [[x, y]]).length c7) ∧ w'.cell? ⟨w.heap.size + 2, 1, none⟩ = some (.slice (some ⟨gl, 0, none⟩) 2 cl') ∧ w'.cell? ⟨gl, 0, none⟩ = some (.int .i64 x) ∧ w'.cell? ⟨gl, 1, none⟩ = some (.int .i64 y) ∧ Hid (ArcL w' (.slice a7 (offP P ++ [[x, y]]).length c7) (offP P ++ [[x, y]]) ∧ Below W.heap.size W w')) := fun W' hb => by
            have hWW : Below W.heap.size W W' := HWB3.out.trans (hb.mono HWB3.out.size)
            refine (HMF.out W' (HBW.out.trans (hWW.mono HBW.out.size))).mono ?_
            rintro e w' ⟨v', h1, h2, h3⟩
            have h4 : Below W.heap.size W w' := hWW.trans (h3.mono hWW.size)
            have h5 : Below w.heap.size w w' := HBW.out.trans (h4.mono HBW.out.size)
            obtain ⟨a7, c7, hv7, h6⟩ := h2
            subst hv7
            exact ⟨a7, c7, h1, (HRG.out w' h4).2.1, (h5.cell (by exact hgll)).trans z0, (h5.cell (by exact hgll)).trans z1, ⟨⟨a7, c7, rfl, h6⟩, h4⟩⟩
          go_wp2_with fail
          go_region_held3 (fun w' => w'.cell? ⟨w.heap.size + 2, 1, none⟩ = some (.slice (some ⟨gl, 0, none⟩) 2 cl') ∧ w'.cell? ⟨gl, 0, none⟩ = some (.int .i64 x) ∧ w'.cell? ⟨gl, 1, none⟩ = some (.int .i64 y)) (go_keep) (first | (go_at_call 190; refine (HCM4.out _ (by first | exact Below.refl _ _ | exact (Below.refl _ _).drew)).mono ?_; rintro e4 w4 ⟨a74, c74, rfl, s14, s24, s34, HF4⟩))
          have HAR4 := hid HF4.out.1
          have HWB4 := hid HF4.out.2
          clear HCM4 HF4 s14 s24 s34 m0 m1 q0 q1 q2 q3 q4 q5 q6 q7 d0 d1 ql y0 y1 lg1
          have HB4 : Hid (Below w.heap.size w w4) := HBW.out.trans (HWB4.out.mono HBW.out.size)
          obtain ⟨m0, m1, q0, q1, q2, q3, q4, q5, q6, q7, d0, d1, ql⟩ := HRG.out w4 HWB4.out
          have y0 : w4.cell? ⟨gl, 0, none⟩ = _ := (HB4.out.cell (by exact hgll)).trans z0
          have y1 : w4.cell? ⟨gl, 1, none⟩ = _ := (HB4.out.cell (by exact hgll)).trans z1
          have lg1 : gl < w4.heap.size := Nat.lt_of_lt_of_le hgll HB4.out.size
          have HAR4' : Hid (ArcL w4 (.slice a74 ((offP P).length + 1) c74) (offP P ++ [[x, y]])) := by have h := HAR4.out; rw [List.length_append] at h; exact h
          go_wp2_with fail
          refine (HIH2.out _ next w4 HB4.out HAR4'.out hi3 HTT.out).mono ?_
          rintro e5 w5 ⟨bad5, next5, rfl, hf5, hb5⟩
          have HF5 := hid (HFC.out _ _ hf5)
          have HB5 : Hid (Below w.heap.size w w5) := HB4.out.trans (hb5.mono HB4.out.size)
          clear hf5 hb5 HIH2 HAR4 HAR4' m0 m1 q0 q1 q2 q3 q4 q5 q6 q7 d0 d1 ql y0 y1 lg1
          go_wp2_with fail
          refine bodyPost_ret (v := .tuple #[.int .i64 bad5, .int .i64 next5]) (by simp [results, Tryz.results128, go_sem]) rfl ?_
          exact ⟨bad5, next5, rfl, HF5.out, HB5.out⟩
        · have b3 : decide (0 < (bad : Int)) = true := by simp; omega
          have b3n : decide (0 < bad) = true := by simp; omega
          have HF5 := hid (HB1'.out bad next i hbd HF3.out)
          clear hbd HB1' HB2' HF3
          go_wp2_with fail
          refine bodyPost_ret (v := .tuple #[.int .i64 bad, .int .i64 i]) (by simp [results, Tryz.results128, go_sem]) rfl ?_
          exact ⟨bad, i, rfl, HF5.out, HB3.out⟩
      · have HF : Hid (FirstOk (insOf r (siteD r)) cl L P i k 0 (i + 1)) := first_leaf HT.out HGI.out hk hst
        have bk : (nd.1 != 1) = true := by simpa using hk
        rw [hst, Option.isSome_some] at HHO
        clear hst IH hk
        unfold ground claimV at *
        go_enter Tryz.func128, Tryz.ntmps128
        go_wp2_with fail
        rw [← HWQ.out]
        refine (HHO.out _ HBW.out).mono ?_
        rintro e1 w1 ⟨rfl, hb1⟩
        have HB1 : Hid (Below w.heap.size w w1) := HBW.out.trans (hb1.mono HBW.out.size)
        obtain ⟨m0, m1, _⟩ := HRG.out w1 hb1
        have m0' : w1.cell? ⟨w.heap.size + 1 + 1, 0, none⟩ = some (.int .i64 nd.1) := m0
        clear hb1 HHO HRG
        go_wp2_with fail
        refine bodyPost_ret (v := .tuple #[.int .i64 0, .int .i64 ((i : Int) + 1)]) (by simp [results, Tryz.results128, go_sem]) rfl ?_
        exact ⟨0, i + 1, rfl, HF.out, HB1.out⟩
end Go.Proofs.YtebinaopncclgabGreatDoor
