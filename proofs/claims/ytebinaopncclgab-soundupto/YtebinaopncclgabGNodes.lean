/- Walks: what is kept of a tree's nodes while they are gone through. -/
import Derived.Test.YtebinaopncclgabGLeave
import Derived.Test.YtebinaopncclgabSMatch
import Derived.Test.YtebinaopncclgabTRead
namespace Go.Proofs.Ytebinaopncclgab
open Go.RowKit Go.IntWalk

theorem WalkAt.mv {w0 w w' : World} {p : Nat} {r : Rd} {cl : Option Int} {P : PathT} {vs vf vf2 : Value} (h : WalkAt w0 w p r cl P vs vf vf2) (hb : Below w.heap.size w w') : WalkAt w0 w' p r cl P vs vf vf2 := by
  obtain ⟨va, g1, g2⟩ := h.above
  have hp := h.arcs.lt
  exact ⟨h.size, h.below.trans (hb.mono (Nat.le_of_lt hp)), (hb.cell (by exact hp)).trans h.c0, (hb.cell (by exact hp)).trans h.c1, (hb.cell (by exact hp)).trans h.c2, (hb.cell (by exact hp)).trans h.c5, (hb.cell (by exact hp)).trans h.c7, h.arcs.below hb, ⟨va, (hb.cell (by exact hp)).trans g1, own_below g2 hb⟩, (hb.cell (by exact hp)).trans h.c75, (hb.cell (by exact hp)).trans h.c76⟩
theorem WalkAt.area {w0 w : World} {p : Nat} {r : Rd} {cl : Option Int} {P : PathT} {vs vf vf2 : Value} (h : WalkAt w0 w p r cl P vs vf vf2) (hs : StR w0 vs r) (hq : SqR w0 vf (r.stops.length + 1) (siteD r)) : AreaAt w p r (siteD r) vs vf := by
  have hb : Below w0.heap.size w0 w := by rw [h.size]; exact h.below
  exact ⟨h.arcs.lt, h.c0, h.c1, h.c2, h.c5, h.c7, hs.below hb, hq.below hb⟩
theorem KeptP.of_below {a b : World} {p : Nat} (h : Below a.heap.size a b) : KeptP a b p := ⟨h.size, fun _ _ k h1 _ _ => h.block k h1⟩
theorem KeptP.of_kept {a b : World} {p : Nat} (h : KeptB a b p) : KeptP a b p := ⟨h.1, fun _ _ k h1 h2 _ => h.2 k h1 h2⟩
theorem said_zero {n : Nat} {P : PathT} {x y : Int} : saidZ n (tabP P) x y = 0 ↔ (0 ≤ x ∧ x ≤ (n : Int) ∧ 0 ≤ y ∧ y ≤ (n : Int) ∧ x ≠ y) ∧ tabP P x.toNat y.toNat = 0 := by
  unfold saidZ
  by_cases h : isArcP n x y
  · rw [if_pos h]
    obtain ⟨⟨h1, h2⟩, ⟨h3, h4⟩, h5⟩ := h
    exact ⟨fun h => ⟨⟨h1, by omega, h3, by omega, h5⟩, h⟩, fun h => h.2⟩
  · rw [if_neg h]
    constructor
    · intro h1; omega
    · rintro ⟨⟨h1, h2, h3, h4, h5⟩, _⟩
      exact absurd ⟨⟨h1, by omega⟩, ⟨h3, by omega⟩, h5⟩ h
theorem tab_diag {n : Nat} {P : PathT} (h : PathOk n P) (a : Nat) : tabP P a a ≠ 1 := fun h1 => by
  have := tab_mem h (tab_forced h h1)
  exact this.2.2.2 rfl

set_option maxRecDepth 100000 in
set_option maxHeartbeats 4000000 in
theorem step_any (w0 w : World) (p : Nat) (r : Rd) (cl : Option Int) (P : PathT) (v vs vf : Value) (af : Option Addr) (cf : Nat) (nd : NodeT) (hok : RdOk r) (hP : PathOk r.stops.length P) (hlP : P.length ≤ 1000) (hnl : nd.2.length ≤ 20) (hnb : ∀ z ∈ nd.2, -100000000 ≤ z ∧ z ≤ 100000000) (hbr : nd.1 = 1 → nd.2.length = 2) (hr : ListR w v nd.2)
    (hw : WalkAt w0 w p r cl P vs vf (.slice af (r.stops.length + 1 : Nat) cf)) (hs : StR w0 vs r) (hq : SqR w0 vf (r.stops.length + 1) (siteD r)) (hq2 : SqR w0 (.slice af (r.stops.length + 1 : Nat) cf) (r.stops.length + 1) (siteD r)) :
    Calls Try.prog 33 #[.pointer (some ⟨p, 0, none⟩), .agg #[.int .i64 nd.1, v]] w fun e w' => (stepW (insOf r (siteD r)) cl P nd = none → e = .returned (.bool false) ∧ Below p w0 w') ∧ (∀ P', stepW (insOf r (siteD r)) cl P nd = some P' → e = .returned (.bool true) ∧ WalkAt w0 w' p r cl P' vs vf (.slice af (r.stops.length + 1 : Nat) cf) ∧ KeptP w w' p) := by
  obtain ⟨k, zs⟩ := nd
  dsimp only at hnl hnb hbr hr ⊢
  have hp := hw.arcs.lt
  have HWB := hid hw.below
  by_cases hk : k = 1
  · subst hk
    have h2 := hbr rfl
    obtain ⟨z0, z1, rfl⟩ : ∃ z0 z1, zs = [z0, z1] := by
      match zs, h2 with
      | [a, b], _ => exact ⟨a, b, rfl⟩
    by_cases hc : saidZ r.stops.length (tabP P) z0 z1 = 0
    · have hz := said_zero.1 hc
      have HST : Hid (stepW (insOf r (siteD r)) cl P (1, [z0, z1]) = some (((z0.toNat, z1.toNat), true) :: P)) := by
        show _ = _
        unfold stepW
        rw [if_pos rfl, if_pos ⟨⟨hz.1.1, hz.1.2.1, hz.1.2.2.1, hz.1.2.2.2.1, hz.1.2.2.2.2⟩, hz.2⟩]; rfl
      have HE : Hid (∀ W, Below w.heap.size w W → Calls Try.prog 47 #[.pointer (some ⟨p, 8, none⟩), v] W fun e w' => e = .returned (.bool true) ∧ WalkAt w0 w' p r cl (((z0.toNat, z1.toNat), true) :: P) vs vf (.slice af (r.stops.length + 1 : Nat) cf) ∧ KeptP W w' p) := fun W hW => by
        refine enter_yes w0 W p r cl P v vs vf af cf z0.toNat z1.toNat hok ?_ (hw.mv hW) hlP (by omega) (by omega) (by omega) hz.2
        rw [Int.toNat_of_nonneg hz.1.1, Int.toNat_of_nonneg hz.1.2.2.1]
        exact hr.below hW
      obtain ⟨ao, c, rfl, _⟩ := hr
      obtain ⟨W, hW⟩ : ∃ W, W = w.alloc (.cells #[.int .i64 1, .slice ao 2 c] 93) := ⟨_, rfl⟩
      have HBW : Hid (Below w.heap.size w W) := by rw [hW]; exact below1 w _
      have hbx : W.heap[w.heap.size]? = some (.cells #[.int .i64 1, .slice ao 2 c] 93 (0, 0)) := by rw [hW]; exact heap_alloc_new w _
      have hbl : w.heap.size < W.heap.size := (Array.getElem?_eq_some_iff.1 hbx).1
      have HC : Hid (∀ W', Below W.heap.size W W' → Calls Try.prog 47 #[.pointer (some ⟨p, 8, none⟩), .slice ao 2 c] W' fun e w' => e = .returned (.bool true) ∧ w'.cell? ⟨w.heap.size, 1, none⟩ = some (.slice ao 2 c) ∧ Hid (WalkAt w0 w' p r cl (((z0.toNat, z1.toNat), true) :: P) vs vf (.slice af (r.stops.length + 1 : Nat) cf) ∧ KeptP w w' p)) := fun W' hW' => by
        have hWW : Below w.heap.size w W' := HBW.out.trans (hW'.mono HBW.out.size)
        refine (HE.out W' hWW).mono ?_
        rintro e w' ⟨h1, h2, h3⟩
        have hwW := hw.mv hWW
        obtain ⟨va, g1, g2⟩ := hw.above
        have g1' := (hWW.cell (by exact hp)).trans g1
        have hne : va.ownBlock ≠ some w.heap.size := fun h => by have := (g2.lt _ h).2; omega
        have hblk : w'.heap[w.heap.size]? = some (.cells #[.int .i64 1, .slice ao 2 c] 93 (0, 0)) := by
          rw [h3.2 va g1' w.heap.size (Nat.lt_of_lt_of_le hbl hW'.size) (by omega) hne, hW'.block _ hbl]; exact hbx
        refine ⟨h1, cell_of_row w' _ 1 _ _ _ hblk, h2, Nat.le_trans hWW.size h3.1, fun va' hva' q hq1 hq2 hq3 => ?_⟩
        rw [g1] at hva'
        cases hva'
        rw [h3.2 va g1' q (Nat.lt_of_lt_of_le hq1 hWW.size) hq2 hq3]; exact hWW.block q hq1
      have y1 : W.cell? ⟨w.heap.size, 1, none⟩ = some (.slice ao 2 c) := cell_of_row W _ 1 _ _ _ hbx
      have y0 : W.cell? ⟨w.heap.size, 0, none⟩ = some (.int .i64 1) := cell_of_row W _ 0 _ _ _ hbx
      have HWQ := hid hW
      clear hw hs hq hq2 hc hz hbx hW HE
      change Calls Try.prog 33 #[.pointer (some ⟨p, 0, none⟩), .agg #[.int .i64 1, .slice ao 2 c]] w _
      go_enter Try.func33, Try.ntmps33
      go_wp2_with fail
      rw [← HWQ.out]
      go_region_held3 (fun w' => w'.cell? ⟨w.heap.size, 1, none⟩ = some (.slice ao 2 c)) (go_keep) (first | (go_at_call 47; refine (HC.out _ (by first | exact Below.refl _ _ | exact (Below.refl _ _).drew)).mono ?_; rintro e3 w3 ⟨rfl, x1, HF⟩))
      go_wp2
      go_ret
      exact ⟨fun h => (by rw [HST.out] at h; cases h), fun P' h => (by rw [HST.out] at h; cases h; exact ⟨rfl, HF.out⟩)⟩
    · have HST : Hid (stepW (insOf r (siteD r)) cl P (1, [z0, z1]) = none) := by
        show _ = _
        unfold stepW
        rw [if_pos rfl, if_neg]
        rintro ⟨⟨h1, h2, h3, h4, h5⟩, h6⟩
        exact hc (said_zero.2 ⟨⟨h1, h2, h3, h4, h5⟩, h6⟩)
      have HE : Hid (∀ W, Below w.heap.size w W → Calls Try.prog 47 #[.pointer (some ⟨p, 8, none⟩), v] W fun e w' => e = .returned (.bool false) ∧ Below W.heap.size W w') := fun W hW => enter_no w0 W p r cl P v vs vf af cf [z0, z1] hok (hr.below hW) (hw.mv hW) (fun h => hc h.2)
      obtain ⟨ao, c, rfl, _⟩ := hr
      obtain ⟨W, hW⟩ : ∃ W, W = w.alloc (.cells #[.int .i64 1, .slice ao 2 c] 93) := ⟨_, rfl⟩
      have HBW : Hid (Below w.heap.size w W) := by rw [hW]; exact below1 w _
      have hbx : W.heap[w.heap.size]? = some (.cells #[.int .i64 1, .slice ao 2 c] 93 (0, 0)) := by rw [hW]; exact heap_alloc_new w _
      have hbl : w.heap.size < W.heap.size := (Array.getElem?_eq_some_iff.1 hbx).1
      have y1 : W.cell? ⟨w.heap.size, 1, none⟩ = some (.slice ao 2 c) := cell_of_row W _ 1 _ _ _ hbx
      have y0 : W.cell? ⟨w.heap.size, 0, none⟩ = some (.int .i64 1) := cell_of_row W _ 0 _ _ _ hbx
      have HC : Hid (∀ W', Below W.heap.size W W' → Calls Try.prog 47 #[.pointer (some ⟨p, 8, none⟩), .slice ao 2 c] W' fun e w' => e = .returned (.bool false) ∧ w'.cell? ⟨w.heap.size, 1, none⟩ = some (.slice ao 2 c) ∧ Hid (Below p w0 w')) := fun W' hW' => by
        refine (HE.out W' (HBW.out.trans (hW'.mono HBW.out.size))).mono ?_
        rintro e w' ⟨h1, h2⟩
        have h3 : Below W.heap.size W w' := hW'.trans (h2.mono hW'.size)
        exact ⟨h1, (h3.cell (by exact hbl)).trans y1, HWB.out.trans ((HBW.out.trans (h3.mono HBW.out.size)).mono (Nat.le_of_lt hp))⟩
      have HWQ := hid hW
      clear hw hs hq hq2 hc hbx hW HE
      change Calls Try.prog 33 #[.pointer (some ⟨p, 0, none⟩), .agg #[.int .i64 1, .slice ao 2 c]] w _
      go_enter Try.func33, Try.ntmps33
      go_wp2_with fail
      rw [← HWQ.out]
      go_region_held3 (fun w' => w'.cell? ⟨w.heap.size, 1, none⟩ = some (.slice ao 2 c)) (go_keep) (first | (go_at_call 47; refine (HC.out _ (by first | exact Below.refl _ _ | exact (Below.refl _ _).drew)).mono ?_; rintro e3 w3 ⟨rfl, x1, HF⟩))
      go_wp2
      go_ret
      exact ⟨fun _ => ⟨rfl, by first | exact HF.out | exact HF.out.drew⟩, fun P' h => (by rw [HST.out] at h; cases h)⟩
  · have e1 : (k == 1) = false := by simpa using hk
    have HLF : Hid (∀ W, Below w.heap.size w W → Calls Try.prog 48 #[.pointer (some ⟨p, 0, none⟩), .agg #[.int .i64 k, v]] W fun e w' => e = .returned (.bool (@decide (HoldZ (insOf r (siteD r)) cl (tabP P) (k, zs)) (Classical.propDecidable _))) ∧ Below W.heap.size W w') := fun W hW => by
      have hwW := hw.mv hW
      have hb0 : Below w0.heap.size w0 W := by rw [hwW.size]; exact hwW.below
      exact leafHolds_any p r (tabP P) v vs vf _ (k, zs) cl W hok hnl hnb (hr.below hW) (tab_diag hP) (hwW.area hs hq) hwW.arcs (hq2.below hb0) hwW.c75 hwW.c76
    have HLV : Hid (∀ W, Below w.heap.size w W → Calls Try.prog 49 #[.pointer (some ⟨p, 8, none⟩)] W fun e w' => (∃ t, e = .returned (.bool t)) ∧ WalkAt w0 w' p r cl (leaveP P) vs vf (.slice af (r.stops.length + 1 : Nat) cf) ∧ KeptB W w' p) := fun W hW => leave_any w0 W p r cl P vs vf af cf hok hP hlP (hw.mv hW)
    by_cases hh : HoldZ (insOf r (siteD r)) cl (tabP P) (k, zs)
    · have HST : Hid (stepW (insOf r (siteD r)) cl P (k, zs) = some (leaveP P)) := by show _ = _; unfold stepW; rw [if_neg hk, if_pos hh]
      have hd : @decide (HoldZ (insOf r (siteD r)) cl (tabP P) (k, zs)) (Classical.propDecidable _) = true := by simpa using hh
      rw [hd] at HLF
      obtain ⟨ao, c, rfl, _⟩ := hr
      clear hw hs hq hq2 hh hd hk hbr
      go_enter Try.func33, Try.ntmps33
      go_wp2_with fail
      refine (HLF.out _ (below1 w _)).mono ?_
      rintro e2 w2 ⟨rfl, hb2⟩
      have HB2 : Hid (Below w.heap.size w w2) := (below1 w _).trans (hb2.mono (by simp))
      clear hb2
      go_wp2_with fail
      refine (HLV.out _ HB2.out).mono ?_
      rintro e3 w3 ⟨⟨t, rfl⟩, hw3, hk3⟩
      have HW3 := hid hw3
      have HK3 : Hid (KeptP w w3 p) := KeptP.of_kept ((KeptB.of_below HB2.out).trans hk3)
      clear hw3 hk3
      go_wp2_with fail
      go_ret
      exact ⟨fun h => (by rw [HST.out] at h; cases h), fun P' h => (by rw [HST.out] at h; cases h; exact ⟨rfl, HW3.out, HK3.out⟩)⟩
    · have HST : Hid (stepW (insOf r (siteD r)) cl P (k, zs) = none) := by show _ = _; unfold stepW; rw [if_neg hk, if_neg hh]
      have hd : @decide (HoldZ (insOf r (siteD r)) cl (tabP P) (k, zs)) (Classical.propDecidable _) = false := by simpa using hh
      rw [hd] at HLF
      obtain ⟨ao, c, rfl, _⟩ := hr
      clear hw hs hq hq2 hh hd hk hbr
      go_enter Try.func33, Try.ntmps33
      go_wp2_with fail
      refine (HLF.out _ (below1 w _)).mono ?_
      rintro e2 w2 ⟨rfl, hb2⟩
      have HB2 : Hid (Below w.heap.size w w2) := (below1 w _).trans (hb2.mono (by simp))
      clear hb2
      go_wp2_with fail
      go_ret
      exact ⟨fun _ => ⟨rfl, HWB.out.trans (HB2.out.mono (Nat.le_of_lt hp))⟩, fun P' h => (by rw [HST.out] at h; cases h)⟩
end Go.Proofs.Ytebinaopncclgab
namespace Go.Proofs.Ytebinaopncclgab

theorem path_step {I : Ins} {cl : Option Int} {P P' : PathT} {nd : NodeT} (h : PathOk I.n P) (hs : stepW I cl P nd = some P') : PathOk I.n P' := by
  unfold stepW at hs
  split at hs
  · split at hs
    · rename_i hc
      cases hs
      obtain ⟨⟨h1, h2, h3, h4, h5⟩, h6⟩ := hc
      exact .cons (by omega) (by omega) (by omega) h6 h
    · cases hs
  · split at hs
    · cases hs; exact path_leave h
    · cases hs
/- the first node that does not hold, counted from one; 0 where all do -/
noncomputable def firstW (I : Ins) (cl : Option Int) : PathT → List NodeT → Nat → Nat
  | _, [], _ => 0
  | P, nd :: l, i => match stepW I cl P nd with
    | none => i + 1
    | some P' => firstW I cl P' l (i + 1)
theorem firstW_cons (I : Ins) (cl : Option Int) (P : PathT) (nd : NodeT) (l : List NodeT) (i : Nat) : firstW I cl P (nd :: l) i = match stepW I cl P nd with | none => i + 1 | some P' => firstW I cl P' l (i + 1) := rfl
theorem firstW_walk (I : Ins) (cl : Option Int) : ∀ (l : List NodeT) (P : PathT) (i : Nat), firstW I cl P l i = 0 ↔ ∃ P', walkW I cl P l = some P'
  | [], P, i => ⟨fun _ => ⟨P, rfl⟩, fun _ => rfl⟩
  | nd :: l, P, i => by
    rw [firstW_cons, walkW_cons]
    cases stepW I cl P nd with
    | none => exact ⟨fun h => absurd h (by simp), fun ⟨P', h⟩ => by cases h⟩
    | some P1 => exact firstW_walk I cl l P1 (i + 1)
theorem firstW_le (I : Ins) (cl : Option Int) : ∀ (l : List NodeT) (P : PathT) (i : Nat), firstW I cl P l i ≤ i + l.length
  | [], P, i => by show 0 ≤ _; omega
  | nd :: l, P, i => by
    rw [firstW_cons]
    cases stepW I cl P nd with
    | none => show i + 1 ≤ _; simp
    | some P1 => have := firstW_le I cl l P1 (i + 1); show firstW I cl P1 l (i + 1) ≤ _; simp; omega

theorem tree_nodes : ∀ (l : List NodeT) (o : Nat), treeT o l = true → ∀ nd ∈ l, nodeOkT nd = true := by
  intro l
  induction l with
  | nil => intro o _ nd hm; cases hm
  | cons x l ih =>
    intro o h nd hm
    simp only [treeT, Bool.and_eq_true] at h
    rcases List.mem_cons.1 hm with rfl | hm
    · exact h.1.2
    · exact ih _ h.2 nd hm
theorem node_facts {l : List NodeT} {o : Nat} (h : treeT o l = true) {nd : NodeT} (hm : nd ∈ l) : nd.2.length ≤ 20 ∧ (∀ z ∈ nd.2, -100000000 ≤ z ∧ z ≤ 100000000) ∧ (nd.1 = 1 → nd.2.length = 2) := by
  obtain ⟨h1, h2⟩ := nodeOk_parts (tree_nodes l o h nd hm)
  have h3 := cntT_kind h1
  exact ⟨by omega, h2, fun h => by omega⟩

/- what is told of the tree that begins at a node, with k trees behind it -/
def FirstOk (I : Ins) (cl : Option Int) (L : List NodeT) (P : PathT) (i k bad next : Nat) : Prop :=
  (bad ≠ 0 ∧ firstW I cl P (L.drop i) i = bad) ∨ (bad = 0 ∧ i < next ∧ next ≤ L.length ∧ treeT k (L.drop next) = true ∧ firstW I cl P (L.drop i) i = firstW I cl (leaveP P) (L.drop next) next)
theorem tree_cons {L : List NodeT} {i k : Nat} (h : treeT (k + 1) (L.drop i) = true) : ∃ hi : i < L.length, L.drop i = L[i] :: L.drop (i + 1) ∧ nodeOkT L[i] = true ∧ treeT (nextT (k + 1) L[i].1) (L.drop (i + 1)) = true := by
  by_cases hi : i < L.length
  · refine ⟨hi, List.drop_eq_getElem_cons hi, ?_⟩
    rw [List.drop_eq_getElem_cons hi] at h
    simp only [treeT, Bool.and_eq_true] at h
    exact ⟨h.1.2, h.2⟩
  · rw [List.drop_eq_nil_of_le (by omega)] at h
    simp [treeT] at h
theorem first_bad {I : Ins} {cl : Option Int} {L : List NodeT} {P : PathT} {i k next : Nat} (h : treeT (k + 1) (L.drop i) = true) {nd : NodeT} (hn : L[i]? = some nd) (hs : stepW I cl P nd = none) : FirstOk I cl L P i k (i + 1) next := by
  obtain ⟨hi, e, _, _⟩ := tree_cons h
  rw [List.getElem?_eq_getElem hi] at hn
  cases hn
  refine .inl ⟨by omega, ?_⟩
  rw [e, firstW_cons, hs]
theorem first_leaf {I : Ins} {cl : Option Int} {L : List NodeT} {P P' : PathT} {i k : Nat} (h : treeT (k + 1) (L.drop i) = true) {nd : NodeT} (hn : L[i]? = some nd) (hk : nd.1 ≠ 1) (hs : stepW I cl P nd = some P') : FirstOk I cl L P i k 0 (i + 1) := by
  obtain ⟨hi, e, _, ht⟩ := tree_cons h
  rw [List.getElem?_eq_getElem hi] at hn
  cases hn
  have hP : P' = leaveP P := by
    unfold stepW at hs
    rw [if_neg hk] at hs
    split at hs
    · cases hs; rfl
    · cases hs
  subst hP
  unfold nextT at ht
  rw [if_neg hk] at ht
  refine .inr ⟨rfl, by omega, by omega, ht, ?_⟩
  rw [e, firstW_cons, hs]
theorem first_branch {I : Ins} {cl : Option Int} {L : List NodeT} {P : PathT} {i k : Nat} {ab : Nat × Nat} (h : treeT (k + 1) (L.drop i) = true) {nd : NodeT} (hn : L[i]? = some nd) (hk : nd.1 = 1) (hs : stepW I cl P nd = some ((ab, true) :: P)) :
    treeT (k + 2) (L.drop (i + 1)) = true ∧ (∀ bad next next', bad ≠ 0 → FirstOk I cl L ((ab, true) :: P) (i + 1) (k + 1) bad next → FirstOk I cl L P i k bad next') ∧
    (∀ next bad next', FirstOk I cl L ((ab, true) :: P) (i + 1) (k + 1) 0 next → treeT (k + 1) (L.drop next) = true ∧ i < next ∧ next ≤ L.length ∧ (FirstOk I cl L ((ab, false) :: P) next k bad next' → FirstOk I cl L P i k bad next')) := by
  obtain ⟨hi, e, _, ht⟩ := tree_cons h
  rw [List.getElem?_eq_getElem hi] at hn
  cases hn
  unfold nextT at ht
  rw [if_pos hk] at ht
  have hf : firstW I cl P (L.drop i) i = firstW I cl ((ab, true) :: P) (L.drop (i + 1)) (i + 1) := by rw [e, firstW_cons, hs]
  refine ⟨ht, fun bad next next' hb h1 => ?_, fun next bad next' h1 => ?_⟩
  · rcases h1 with ⟨_, h1⟩ | ⟨h1, _⟩
    · exact .inl ⟨hb, hf.trans h1⟩
    · exact absurd h1 hb
  · rcases h1 with ⟨h1, _⟩ | ⟨_, h1, h2, h3, h4⟩
    · exact absurd rfl h1
    · refine ⟨h3, by omega, h2, fun h5 => ?_⟩
      have e2 : leaveP ((ab, true) :: P) = (ab, false) :: P := rfl
      have e3 : leaveP ((ab, false) :: P) = leaveP P := rfl
      rw [e2] at h4
      rcases h5 with ⟨k1, k2⟩ | ⟨k1, k2, k3, k4, k5⟩
      · exact .inl ⟨k1, hf.trans (h4.trans k2)⟩
      · rw [e3] at k5
        exact .inr ⟨k1, by omega, k3, k4, hf.trans (h4.trans k5)⟩
theorem first_all {I : Ins} {cl : Option Int} {L : List NodeT} {bad next : Nat} (h : FirstOk I cl L [] 0 0 bad next) : firstW I cl [] L 0 = bad := by
  rcases h with ⟨_, h⟩ | ⟨h1, h2, h3, h4, h5⟩
  · simpa using h
  · have e : L.drop next = [] := by
      cases hd : L.drop next with
      | nil => rfl
      | cons x t => rw [hd] at h4; simp [treeT] at h4
    rw [e] at h5
    rw [h1]
    have e2 : firstW I cl (leaveP []) [] next = 0 := rfl
    rw [e2] at h5; simpa using h5
end Go.Proofs.Ytebinaopncclgab
namespace Go.Proofs.Ytebinaopncclgab
open Go.RowKit Go.IntWalk

theorem own_kept {w w' : World} {p B n size B2 n2 : Nat} {e : TypeId} {v va : Value} {xs xs2 : List Value} (h : w.ownsRow B e size v n xs) (hB : p < B) (h74 : w.cell? ⟨p, 74, none⟩ = some va) (ha : w.ownsRow B2 121 2 va n2 xs2) (he : e ≠ 121) (hk : KeptP w w' p) : w'.ownsRow B e size v n xs :=
  own_other h (fun q hq => hk.2 va h74 q (h.lt q hq).2 (by have := (h.lt q hq).1; omega) (fun h2 => by
    rcases own_ne h ha he with h3 | h3
    · rw [h3] at hq; cases hq
    · exact h3 (hq.trans h2.symm)))
theorem NodesR.kept {w0 w w' : World} {p B : Nat} {v vs vf vf2 : Value} {L : List NodeT} {r : Rd} {cl : Option Int} {P : PathT} (h : NodesR w B v L) (hB : p < B) (hw : WalkAt w0 w p r cl P vs vf vf2) (hk : KeptP w w' p) : NodesR w' B v L := by
  obtain ⟨us, h1, h2, h3⟩ := h
  obtain ⟨va, g1, g2⟩ := hw.above
  exact ⟨us, h1, own_kept h2 hB g1 g2 (by decide) hk, fun i hi => own_kept (h3 i hi) hB g1 g2 (by decide) hk⟩
theorem cellsN_at : ∀ (L : List NodeT) (vs : List Value), vs.length = L.length → ∀ i (h : i < L.length), (cellsN L vs)[i * 2]? = some (.int .i64 L[i].1) ∧ (cellsN L vs)[i * 2 + 1]? = some (vs.getD i (.slice none 0 0))
  | [], _, _, i, h => absurd h (by simp)
  | nd :: L, [], hl, _, _ => absurd hl (by simp)
  | nd :: L, v :: vs, hl, i, h => by
    have e : cellsN (nd :: L) (v :: vs) = .int .i64 nd.1 :: v :: cellsN L vs := by simp [cellsN]
    rw [e]
    cases i with
    | zero => exact ⟨rfl, rfl⟩
    | succ i =>
      have := cellsN_at L vs (by simpa using hl) i (by simpa using h)
      have e1 : (i + 1) * 2 = i * 2 + 1 + 1 := by omega
      rw [e1, List.getElem?_cons_succ, List.getElem?_cons_succ, List.getElem?_cons_succ, List.getElem?_cons_succ]
      exact this
theorem NodesR.at {w : World} {B : Nat} {v : Value} {L : List NodeT} (h : NodesR w B v L) {i : Nat} (hi : i < L.length) : ∃ g c ao c', v = .slice (some ⟨g, 0, none⟩) L.length c ∧ B ≤ g ∧ g < w.heap.size ∧ w.cell? ⟨g, i * 2, none⟩ = some (.int .i64 L[i].1) ∧ w.cell? ⟨g, i * 2 + 1, none⟩ = some (.slice ao L[i].2.length c') ∧ ListR w (.slice ao L[i].2.length c') L[i].2 := by
  obtain ⟨us, h1, h2, h3⟩ := h
  obtain ⟨g, cap, cur, rfl, hb, hg, _⟩ := own_shape h2 (by omega)
  obtain ⟨k1, k2⟩ := cellsN_at L us h1 i hi
  obtain ⟨ao, c', hv, _, _⟩ := own_val (h3 i hi)
  have h4 := h3 i hi
  rw [hv] at h4 k2
  exact ⟨g, cap, ao, c', rfl, hb, (Array.getElem?_eq_some_iff.1 hg).1, by rw [h2.cellAt (i * 2) (by omega)]; exact k1, by rw [h2.cellAt (i * 2 + 1) (by omega)]; exact k2, ListR.own h4⟩

theorem splitR_len (c : UInt8) : ∀ l : List UInt8, (splitR c l).length ≤ l.length + 1
  | [] => by simp [splitR]
  | x :: t => by
    have := splitR_len c t
    rw [splitR_cons]
    split
    · simp; omega
    · cases hq : splitR c t with
      | nil => simp
      | cons p ps => rw [hq] at this; simp at *; omega
theorem readT_len (l : List UInt8) : (readT l).1.length ≤ l.length + 1 := by
  have h1 := goT_count (splitR 10 l) 1 []
  have h2 := splitR_len 10 l
  unfold readT
  simp at h1; omega
/- what a tree is to show; what Check tells of a text that has an instance -/
def noneB : List UInt8 := [110, 111, 110, 101]
noncomputable def claimS (r : Rd) (l : List UInt8) : Option Int × Int := if l = noneB then (none, 0) else if (judgeS r (siteD r) l).2.2 ≠ 0 then (none, (judgeS r (siteD r) l).2.2) else (some (judgeS r (siteD r) l).1, 0)
noncomputable def checkS (r : Rd) (l t : List UInt8) : Nat × Int :=
  if (claimS r l).2 ≠ 0 then (0, (claimS r l).2) else if (readT t).2.2 ≠ 0 then ((readT t).2.1, 14)
  else if firstW (insOf r (siteD r)) (claimS r l).1 [] (readT t).1 0 = 0 then (0, 0) else (firstW (insOf r (siteD r)) (claimS r l).1 [] (readT t).1 0, 15)
end Go.Proofs.Ytebinaopncclgab
