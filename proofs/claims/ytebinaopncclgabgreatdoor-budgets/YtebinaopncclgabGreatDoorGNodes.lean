/- Walks: what is kept of a tree's nodes while they are gone through. -/
import Derived.Test.YtebinaopncclgabGreatDoorGChain
import Derived.Test.YtebinaopncclgabGreatDoorCArc
import Derived.Test.YtebinaopncclgabGreatDoorJCall
import Derived.Test.YtebinaopncclgabGreatDoorGHall
import Derived.Test.YtebinaopncclgabGreatDoorSMatch
import Derived.Test.YtebinaopncclgabGreatDoorTRead
import Derived.Test.YtebinaopncclgabGreatDoorFPlain
namespace Go.Proofs.YtebinaopncclgabGreatDoor
open Go.RowKit Go.IntWalk

def forcedAt (n : Nat) (T : Nat → Nat → Int) (zs : List Int) (i : Nat) : Prop := saidZ n T (zs.getD i 0) (zs.getD (i + 1) 0) = 1
theorem chainZ_iff {r : Rd} {T : Nat → Nat → Int} {zs : List Int} (hT : ∀ a, T a a ≠ 1) : ChainZ (insOf r (siteD r)) T zs ↔ (∀ i, i + 1 < zs.length → forcedAt r.stops.length T zs i) ∧ ChainP r.stops.length zs ∧ BlockedQ (insOf r (siteD r)) (zs.map Int.toNat) := by
  constructor
  · intro h
    refine ⟨fun i hi => ?_, ⟨h.ne, h.sites, h.ends⟩, h.blocked⟩
    have h1 := h.sites _ (getD_mem (show i < zs.length by omega))
    have h2 := h.sites _ (getD_mem hi)
    have h3 := h.forced i hi
    have h4 : (insOf r (siteD r)).n = r.stops.length := rfl
    unfold forcedAt saidZ
    rw [if_pos]
    · exact h3
    · refine ⟨⟨h1.1, by omega⟩, ⟨h2.1, by omega⟩, fun e => ?_⟩
      rw [e] at h3
      exact hT _ h3
  · rintro ⟨h1, h2, h3⟩
    refine ⟨h2.ne, h2.sites, h2.ends, fun i hi => ?_, h3⟩
    have := h1 i hi
    unfold forcedAt saidZ at this
    split at this
    · exact this
    · omega

open Classical in
set_option maxRecDepth 100000 in
set_option maxHeartbeats 4000000 in
theorem chainHolds_any (p : Nat) (r : Rd) (T : Nat → Nat → Int) (v vs vf : Value) (af : Option Addr) (cf : Nat) (zs : List Int) (w : World) (hok : RdOk r) (hl : zs.length ≤ 20) (hr : ListR w v zs) (hT : ∀ a, T a a ≠ 1)
    (ha : ArcsAt w p 8 r T (.slice af (r.stops.length + 1 : Nat) cf)) (hA : AreaAt w p r (siteD r) vs vf) :
    Calls Tryz.prog 223 #[.pointer (some ⟨p, 0, none⟩), v] w fun e w' => e = .returned (.bool (decide (ChainZ (insOf r (siteD r)) T zs))) ∧ Below w.heap.size w w' := by
  have hns := hok.nstops
  have HBL : Hid (∀ W, Below w.heap.size w W → Calls Tryz.prog 219 #[.pointer (some ⟨p, 0, none⟩), v] W fun e w' => e = .returned (.bool (decide (ChainP r.stops.length zs ∧ BlockedQ (insOf r (siteD r)) (zs.map Int.toNat)))) ∧ Below W.heap.size W w') := fun W hW => blocked_any p r (siteD r) v vs vf zs W hl (hr.below hW) hok (hA.below hW) (fun a b h1 h2 => site_range hok a b h1 h2)
  have HSD : Hid (∀ W x y, Below w.heap.size w W → Calls Tryz.prog 146 #[.pointer (some ⟨p, 8, none⟩), .int .i64 x, .int .i64 y] W fun e w' => e = .returned (.int .i64 (saidZ r.stops.length T x y)) ∧ Below W.heap.size W w') := fun W x y hW => said_any p 8 r T af cf r.stops.length x y W hns (ha.below hW)
  have HCI := hid (chainZ_iff (r := r) (zs := zs) hT)
  have hp := hA.lt
  have HR := hid hr
  obtain ⟨ao, c, rfl, _⟩ := hr
  clear ha hA hok
  go_enter Tryz.func223, Tryz.ntmps223
  go_wp2_with fail
  go_loopw [5] (fun i wr => ∃ a : Nat, i = .int .i64 (a + 1 : Nat) ∧ (a = 0 ∨ a + 1 ≤ zs.length) ∧ Hid (∀ j, j < a → forcedAt r.stops.length T zs j) ∧ Hid (Below w.heap.size w wr)) (fun i _ => zs.length - (intOf i).toNat)
  case atStart => exact ⟨0, rfl, by omega, fun i h => absurd h (by omega), Below.refl _ _⟩
  case round =>
    obtain ⟨a, rfl, ha, HN, HB⟩ := hrel
    by_cases hlt : a + 1 < zs.length
    · obtain ⟨ao', c', hv, hrr⟩ := HR.out
      cases hv
      obtain ⟨g, hao, hgl, hca⟩ := hrr a (by omega)
      obtain ⟨g', hao', _, hcb⟩ := hrr (a + 1) hlt
      subst hao
      cases hao'
      have x0 : wr.cell? ⟨g, a, none⟩ = _ := (HB.out.cell (by exact hgl)).trans hca
      have x1 : wr.cell? ⟨g, a + 1, none⟩ = _ := (HB.out.cell (by exact hgl)).trans hcb
      have xl : g < wr.heap.size := Nat.lt_of_lt_of_le hgl HB.out.size
      have HF : Hid (forcedAt r.stops.length T zs a ↔ saidZ r.stops.length T (zs.getD a 0) (zs.getD (a + 1) 0) = 1) := Iff.rfl
      generalize zs.getD a 0 = x at *
      generalize zs.getD (a + 1) 0 = y at *
      have HCW : Hid (∀ W, Below wr.heap.size wr W → Calls Tryz.prog 146 #[.pointer (some ⟨p, 8, none⟩), .int .i64 x, .int .i64 y] W fun e w' => e = .returned (.int .i64 (saidZ r.stops.length T x y)) ∧ w'.cell? ⟨g, a, none⟩ = some (.int .i64 x) ∧ w'.cell? ⟨g, a + 1, none⟩ = some (.int .i64 y) ∧ Hid (Below w.heap.size w w')) := fun W hW => by
        refine (HSD.out W x y (HB.out.trans (hW.mono HB.out.size))).mono ?_
        rintro e w' ⟨h1, h2⟩
        have h3 : Below wr.heap.size wr w' := hW.trans (h2.mono hW.size)
        exact ⟨h1, (h3.cell (by exact xl)).trans x0, (h3.cell (by exact xl)).trans x1, HB.out.trans (h3.mono HB.out.size)⟩
      have ia : (0 : Int) ≤ (a : Int) := by omega
      have ja : (a : Int) < (zs.length : Int) := by omega
      have jb : ((a + 1 : Nat) : Int) < (zs.length : Int) := by omega
      have wz : IntKind.i64.wrap (((a + 1 : Nat) : Int) - 1) = (a : Int) := by rw [i64_fits _ (by omega)]; omega
      have ib : (0 : Int) ≤ (a : Int) + 1 := by omega
      have jb2 : (a : Int) + 1 < (zs.length : Int) := by omega
      have wz2 : IntKind.i64.wrap ((a : Int) + 1 - 1) = (a : Int) := by rw [i64_fits _ (by omega)]; omega
      have tn : ((a : Int) + 1).toNat = a + 1 := by omega
      have wz3 : IntKind.i64.wrap (a : Int) = (a : Int) := i64_fits _ (by omega)
      generalize saidZ r.stops.length T x y = sd at *
      clear hca hcb hrr
      by_cases hs : sd = 1
      · have b1 : (sd != 1) = false := by simp [hs]
        have HFA : Hid (forcedAt r.stops.length T zs a) := HF.out.2 hs
        clear hs HF HR HBL HSD HCI
        go_wp2_with fail
        go_region_held3 (fun w' => w'.cell? ⟨g, a, none⟩ = some (.int .i64 x) ∧ w'.cell? ⟨g, a + 1, none⟩ = some (.int .i64 y)) (go_keep) (first | (go_at_call 146; refine (HCW.out _ (by first | exact Below.refl _ _ | exact (Below.refl _ _).drew)).mono ?_; rintro e3 w3 ⟨rfl, z0, z1, HB3⟩))
        go_wp2
        refine ⟨⟨a + 1, by go_num, by omega, fun j hj => ?_, HB3⟩, by simp [intOf]; omega⟩
        by_cases hja : j = a
        · rw [hja]; exact HFA.out
        · exact HN.out j (by omega)
      · have b1 : (sd != 1) = true := by simpa using hs
        have HFA : Hid (¬ ChainZ (insOf r (siteD r)) T zs) := fun h => hs (HF.out.1 ((HCI.out.1 h).1 a hlt))
        clear hs HF HR HBL HSD HCI HN hT
        go_wp2_with fail
        go_region_held3 (fun w' => w'.cell? ⟨g, a, none⟩ = some (.int .i64 x) ∧ w'.cell? ⟨g, a + 1, none⟩ = some (.int .i64 y)) (go_keep) (first | (go_at_call 146; refine (HCW.out _ (by first | exact Below.refl _ _ | exact (Below.refl _ _).drew)).mono ?_; rintro e3 w3 ⟨rfl, z0, z1, HB3⟩))
        go_wp2
        go_ret
        refine ⟨retB ?_, by first | exact HB3.out | exact HB3.out.drew | exact below_dn HB3.out _⟩
        symm
        rw [decide_eq_false_iff_not]; exact HFA.out
    · have HAF : Hid (∀ i, i + 1 < zs.length → forcedAt r.stops.length T zs i) := fun i hi => HN.out i (by omega)
      have HC := hid (HBL.out wr HB.out)
      go_wp2_with fail
      refine HC.out.mono ?_
      rintro e1 w1 ⟨rfl, hb1⟩
      have HB1 : Hid (Below w.heap.size w w1) := HB.out.trans (hb1.mono HB.out.size)
      clear hb1
      go_wp2_with fail
      go_ret
      refine ⟨retB ?_, HB1.out⟩
      rw [Bool.eq_iff_iff, ← Bool.decide_and, decide_eq_true_eq, decide_eq_true_eq, HCI.out]
      exact ⟨fun h => ⟨HAF.out, h⟩, fun h => h.2⟩
end Go.Proofs.YtebinaopncclgabGreatDoor
namespace Go.Proofs.YtebinaopncclgabGreatDoor
open Go.RowKit Go.IntWalk

open Classical in
set_option maxRecDepth 100000 in
set_option maxHeartbeats 4000000 in
theorem leafHolds_any (p : Nat) (r : Rd) (T : Nat → Nat → Int) (v vs vf vf2 : Value) (nd : NodeT) (cl : Option Int) (w : World) (hok : RdOk r) (hl : nd.2.length ≤ 20) (hb : ∀ z ∈ nd.2, -100000000 ≤ z ∧ z ≤ 100000000) (hr : ListR w v nd.2) (hT : ∀ a, T a a ≠ 1)
    (hA : AreaAt w p r (siteD r) vs vf) (ha : ArcsAt w p 8 r T vf2) (hq : SqR w vf2 (r.stops.length + 1) (siteD r)) (h75 : w.cell? ⟨p, 75, none⟩ = some (.bool cl.isSome)) (h76 : w.cell? ⟨p, 76, none⟩ = some (.int .i64 (cl.getD 0))) :
    Calls Tryz.prog 201 #[.pointer (some ⟨p, 0, none⟩), .agg #[.int .i64 nd.1, v]] w fun e w' => e = .returned (.bool (decide (HoldZ (insOf r (siteD r)) cl T nd))) ∧ Below w.heap.size w w' := by
  obtain ⟨k, zs⟩ := nd
  dsimp only at hl hb hr ⊢
  have hp := hA.lt
  have HD : Hid (∀ W, Below w.heap.size w W → Calls Tryz.prog 221 #[.pointer (some ⟨p, 0, none⟩), v] W fun e w' => e = .returned (.bool (decide (∃ c, cl = some c ∧ DualsZ (insOf r (siteD r)) T c zs))) ∧ Below W.heap.size W w') := fun W hW => dualsHold_any p r T v vf2 zs cl W hok hl (hr.below hW) hb (ha.below hW) (hq.below hW) ((hW.cell (by exact hp)).trans h75) ((hW.cell (by exact hp)).trans h76)
  have HH : Hid (∀ W, Below w.heap.size w W → Calls Tryz.prog 222 #[.pointer (some ⟨p, 0, none⟩), v] W fun e w' => e = .returned (.bool (decide (HallZ (insOf r (siteD r)) T zs))) ∧ Below W.heap.size W w') := fun W hW => hallHolds_any p r T v vf2 zs W hok hl (hr.below hW) (ha.below hW) (hq.below hW)
  have HC : Hid (∀ W, Below w.heap.size w W → Calls Tryz.prog 223 #[.pointer (some ⟨p, 0, none⟩), v] W fun e w' => e = .returned (.bool (decide (ChainZ (insOf r (siteD r)) T zs))) ∧ Below W.heap.size W w') := fun W hW => by
    obtain ⟨af, cf, rfl, _⟩ := hq
    exact chainHolds_any p r T v vs vf af cf zs W hok hl (hr.below hW) hT (ha.below hW) (hA.below hW)
  obtain ⟨ao, c, rfl, _⟩ := hr
  clear hA ha hq h75 h76 hok hT hb
  by_cases h2 : k = 2
  · subst h2
    have HE : Hid (HoldZ (insOf r (siteD r)) cl T (2, zs) ↔ ∃ c, cl = some c ∧ DualsZ (insOf r (siteD r)) T c zs) := by show _ ↔ _; unfold HoldZ; simp
    go_enter Tryz.func201, Tryz.ntmps201
    go_wp2_with fail
    refine (HD.out _ (below1 w _)).mono ?_
    rintro e1 w1 ⟨rfl, hb1⟩
    have HB1 : Hid (Below w.heap.size w w1) := (below1 w _).trans (hb1.mono (by simp))
    clear hb1
    generalize hB : decide (∃ c, cl = some c ∧ DualsZ (insOf r (siteD r)) T c zs) = bb at *
    have HBB := hid hB
    clear hB
    go_wp2_with fail
    go_ret
    exact ⟨retB (by rw [← HBB.out]; exact decide_eq_decide.2 HE.out.symm), HB1.out⟩
  have e2 : (k == 2) = false := by simpa using h2
  by_cases h3 : k = 3
  · subst h3
    have HE : Hid (HoldZ (insOf r (siteD r)) cl T (3, zs) ↔ HallZ (insOf r (siteD r)) T zs) := by show _ ↔ _; unfold HoldZ; simp
    go_enter Tryz.func201, Tryz.ntmps201
    go_wp2_with fail
    refine (HH.out _ (below1 w _)).mono ?_
    rintro e1 w1 ⟨rfl, hb1⟩
    have HB1 : Hid (Below w.heap.size w w1) := (below1 w _).trans (hb1.mono (by simp))
    clear hb1
    generalize hB : decide (HallZ (insOf r (siteD r)) T zs) = bb at *
    have HBB := hid hB
    clear hB
    go_wp2_with fail
    go_ret
    exact ⟨retB (by rw [← HBB.out]; exact decide_eq_decide.2 HE.out.symm), HB1.out⟩
  have e3 : (k == 3) = false := by simpa using h3
  by_cases h4 : k = 4
  · subst h4
    have HE : Hid (HoldZ (insOf r (siteD r)) cl T (4, zs) ↔ ChainZ (insOf r (siteD r)) T zs) := by show _ ↔ _; unfold HoldZ; simp
    go_enter Tryz.func201, Tryz.ntmps201
    go_wp2_with fail
    refine (HC.out _ (below1 w _)).mono ?_
    rintro e1 w1 ⟨rfl, hb1⟩
    have HB1 : Hid (Below w.heap.size w w1) := (below1 w _).trans (hb1.mono (by simp))
    clear hb1
    generalize hB : decide (ChainZ (insOf r (siteD r)) T zs) = bb at *
    have HBB := hid hB
    clear hB
    go_wp2_with fail
    go_ret
    exact ⟨retB (by rw [← HBB.out]; exact decide_eq_decide.2 HE.out.symm), HB1.out⟩
  have e4 : (k == 4) = false := by simpa using h4
  have HE : Hid (¬ HoldZ (insOf r (siteD r)) cl T (k, zs)) := by
    unfold HoldZ
    rintro (h | h | h)
    · exact h2 h.1
    · exact h3 h.1
    · exact h4 h.1
  clear h2 h3 h4
  go_enter Tryz.func201, Tryz.ntmps201
  go_wp2_with fail
  go_ret
  exact ⟨retB (by symm; rw [decide_eq_false_iff_not]; exact HE.out), below1 _ _⟩
end Go.Proofs.YtebinaopncclgabGreatDoor
namespace Go.Proofs.YtebinaopncclgabGreatDoor
open Go.RowKit Go.IntWalk

def aboveC (P : PathT) : List Value := (P.reverse.map fun q => [Value.int .i64 q.1.1, Value.int .i64 q.1.2]).flatten
/- ex: what the cells behind the place hold -/
structure WalkG (w0 w : World) (p : Nat) (r : Rd) (ex : Nat → Option Value) (P : PathT) (vs vf vf2 : Value) : Prop where
  size : w0.heap.size = p
  below : Below p w0 w
  c0 : w.cell? ⟨p, 0, none⟩ = some (.int .i64 r.vans)
  c1 : w.cell? ⟨p, 1, none⟩ = some (.int .i64 r.load)
  c2 : w.cell? ⟨p, 2, none⟩ = some (.int .i64 r.close)
  c5 : w.cell? ⟨p, 5, none⟩ = some vs
  c7 : w.cell? ⟨p, 7, none⟩ = some vf
  arcs : ArcsAt w p 8 r (tabP P) vf2
  above : ∃ va, w.cell? ⟨p, 74, none⟩ = some va ∧ w.ownsRow (p + 1) 218 2 va P.length (aboveC P)
  rest : ∀ k u, 75 ≤ k → ex k = some u → w.cell? ⟨p, k, none⟩ = some u
def exW (cl : Option Int) (k : Nat) : Option Value := if k = 75 then some (.bool cl.isSome) else if k = 76 then some (.int .i64 (cl.getD 0)) else none
abbrev WalkAt (w0 w : World) (p : Nat) (r : Rd) (cl : Option Int) (P : PathT) (vs vf vf2 : Value) : Prop := WalkG w0 w p r (exW cl) P vs vf vf2
theorem WalkG.c75 {w0 w : World} {p : Nat} {r : Rd} {cl : Option Int} {P : PathT} {vs vf vf2 : Value} (h : WalkG w0 w p r (exW cl) P vs vf vf2) : w.cell? ⟨p, 75, none⟩ = some (.bool cl.isSome) := h.rest 75 _ (by omega) rfl
theorem WalkG.c76 {w0 w : World} {p : Nat} {r : Rd} {cl : Option Int} {P : PathT} {vs vf vf2 : Value} (h : WalkG w0 w p r (exW cl) P vs vf vf2) : w.cell? ⟨p, 76, none⟩ = some (.int .i64 (cl.getD 0)) := h.rest 76 _ (by omega) rfl
theorem Tryz.infoBranch : (Tryz.prog.info? 218).map (fun i => (i.zero, i.size, i.bytes)) = some (some (.agg #[.int .i64 0, .int .i64 0]), 2, 16) := by kernel_rfl

set_option maxRecDepth 100000 in
set_option maxHeartbeats 4000000 in
theorem enter_no (w0 w : World) (p : Nat) (r : Rd) (ex : Nat → Option Value) (P : PathT) (v vs vf : Value) (af : Option Addr) (cf : Nat) (zs : List Int) (hok : RdOk r) (hr : ListR w v zs) (hw : WalkG w0 w p r ex P vs vf (.slice af (r.stops.length + 1 : Nat) cf)) (hn : ¬ (zs.length = 2 ∧ saidZ r.stops.length (tabP P) (zs.getD 0 0) (zs.getD 1 0) = 0)) :
    Calls Tryz.prog 89 #[.pointer (some ⟨p, 8, none⟩), v] w fun e w' => e = .returned (.bool false) ∧ Below w.heap.size w w' := by
  have hns := hok.nstops
  obtain ⟨ao, c, rfl, hrr⟩ := hr
  have HW := hid hw
  by_cases h2 : zs.length = 2
  · have hsd : saidZ r.stops.length (tabP P) (zs.getD 0 0) (zs.getD 1 0) ≠ 0 := fun h => hn ⟨h2, h⟩
    obtain ⟨g, hao, hgl, hz0⟩ := hrr 0 (by omega)
    obtain ⟨g', hao', _, hz1⟩ := hrr 1 (by omega)
    subst hao
    cases hao'
    have HS := hid (fun W x y (hW : Below w.heap.size w W) => said_any p 8 r (tabP P) af cf r.stops.length x y W hns (hw.arcs.below hW))
    generalize zs.getD 0 0 = x at *
    generalize zs.getD 1 0 = y at *
    have HSD := hid (fun W (hW : Below w.heap.size w W) => HS.out W x y hW)
    generalize saidZ r.stops.length (tabP P) x y = sd at *
    have b1 : (sd != 0) = true := by simpa using hsd
    rw [h2]
    clear hrr hw hn HS h2 hsd
    go_enter Tryz.func89, Tryz.ntmps89
    go_wp2_with fail
    go_region_held3 (fun w' => w'.cell? ⟨g, 0, none⟩ = some (.int .i64 x) ∧ w'.cell? ⟨g, 1, none⟩ = some (.int .i64 y)) (go_keep) (fail)
    obtain ⟨W1, hW1⟩ : ∃ W1, W1 = (w.alloc (.cells #[.int .i64 x, .int .i64 y] 218)).drew := ⟨_, rfl⟩
    rw [← hW1]
    have HB1 : Hid (Below w.heap.size w W1) := by rw [hW1]; exact (below1 w _).drew
    have hbx : W1.heap[w.heap.size]? = some (.cells #[.int .i64 x, .int .i64 y] 218 (0, 0)) := by rw [hW1]; exact heap_alloc_new w _
    have k0 : W1.cell? ⟨w.heap.size, 0, none⟩ = some (.int .i64 x) := cell_of_row W1 _ 0 _ _ _ hbx
    have k1 : W1.cell? ⟨w.heap.size, 1, none⟩ = some (.int .i64 y) := cell_of_row W1 _ 1 _ _ _ hbx
    have kl : w.heap.size < W1.heap.size := (Array.getElem?_eq_some_iff.1 hbx).1
    have HCW : Hid (∀ W, Below W1.heap.size W1 W → Calls Tryz.prog 146 #[.pointer (some ⟨p, 8, none⟩), .int .i64 x, .int .i64 y] W fun e w' => e = .returned (.int .i64 sd) ∧ w'.cell? ⟨w.heap.size, 0, none⟩ = some (.int .i64 x) ∧ w'.cell? ⟨w.heap.size, 1, none⟩ = some (.int .i64 y) ∧ Hid (Below w.heap.size w w')) := fun W hW => by
      refine (HSD.out W (HB1.out.trans (hW.mono HB1.out.size))).mono ?_
      rintro e w' ⟨h1, h2⟩
      have h3 : Below W1.heap.size W1 w' := hW.trans (h2.mono hW.size)
      exact ⟨h1, (h3.cell (by exact kl)).trans k0, (h3.cell (by exact kl)).trans k1, HB1.out.trans (h3.mono HB1.out.size)⟩
    clear hW1 hbx hz0 hz1 HSD
    go_wp2_with fail
    go_region_held3 (fun w' => w'.cell? ⟨w.heap.size, 0, none⟩ = some (.int .i64 x) ∧ w'.cell? ⟨w.heap.size, 1, none⟩ = some (.int .i64 y)) (go_keep) (first | (go_at_call 146; refine (HCW.out _ (by first | exact Below.refl _ _ | exact (Below.refl _ _).drew)).mono ?_; rintro e3 w3 ⟨rfl, z0, z1, HB3⟩))
    go_wp2
    go_ret
    exact ⟨rfl, by first | exact HB3.out | exact HB3.out.drew⟩
  · have b1 : ((zs.length : Int) != 2) = true := by simp; omega
    clear hw hrr hn h2
    go_enter Tryz.func89, Tryz.ntmps89
    go_wp2_with fail
    go_ret
    exact ⟨rfl, Below.refl _ _⟩

theorem kept_p {w X w' : World} {p n size : Nat} {e : TypeId} {o : Obj} {v : Value} {xs : List Value} (hh : X.heap = (w.alloc o).heap) (hp : p < w.heap.size) (ho : w.ownsRow (p + 1) e size v n xs) (hg : X.grownBy w' v.ownBlock) : w'.heap[p]? = w.heap[p]? := by
  have h1 : X.heap[p]? = w.heap[p]? := by rw [hh]; exact Below.heap_alloc _ _ _ hp
  have h2 : p < X.heap.size := by rw [hh]; show p < (w.heap.push o).size; simp; omega
  rw [hg.block p h2 (fun he => by have := (ho.lt p he.symm).1; omega), h1]
theorem cell_p {w w' : World} {p k : Nat} {cs : Array Value} {ty : TypeId} (hb : w.heap[p]? = some (.cells cs ty (0, 0))) (h : w'.heap[p]? = w.heap[p]?) : w'.cell? ⟨p, k, none⟩ = w.cell? ⟨p, k, none⟩ := by
  rw [cell_of_row w p k _ _ _ hb, cell_of_row w' p k _ _ _ (h.trans hb)]
theorem own_other {w w' : World} {v : Value} {B n size : Nat} {e : TypeId} {xs : List Value} (h : w.ownsRow B e size v n xs) (hb : ∀ q, v.ownBlock = some q → w'.heap[q]? = w.heap[q]?) : w'.ownsRow B e size v n xs := by
  obtain ⟨h1, h2⟩ := h
  refine ⟨h1, ?_⟩
  rcases h2 with h2 | ⟨g, cap, cur, rfl, h3, h4, h5⟩
  · exact .inl h2
  · exact .inr ⟨g, cap, cur, rfl, h3, (hb g rfl).trans h4, h5⟩
/- all but the walk's box and the list of the branches above is as it was -/
def KeptP (w w' : World) (p : Nat) : Prop := w.heap.size ≤ w'.heap.size ∧ ∀ va, w.cell? ⟨p, 74, none⟩ = some va → ∀ k, k < w.heap.size → k ≠ p → va.ownBlock ≠ some k → w'.heap[k]? = w.heap[k]?
theorem above_snoc (P : PathT) (a b : Nat) (t : Bool) : aboveC (((a, b), t) :: P) = aboveC P ++ [.int .i64 a, .int .i64 b] := by simp [aboveC]
theorem enter_left {w0 w w3 w4 X w5 : World} {p a b g5 cap5 : Nat} {x y : Int} {r : Rd} {ex : Nat → Option Value} {P : PathT} {vs vf vf2 va : Value} {cs : Array Value} {ty : TypeId} (hw : WalkG w0 w p r ex P vs vf vf2)
    (h3 : Below w.heap.size w w3) (f1 : ArcsAt w4 p 8 r (upd (tabP P) a b 1) vf2) (f2 : ∀ k u, k < 8 ∨ 74 ≤ k → w.cell? ⟨p, k, none⟩ = some u → w4.cell? ⟨p, k, none⟩ = some u) (f3 : ∀ k, k < w3.heap.size → k ≠ p → w4.heap[k]? = w3.heap[k]?) (f4 : Below p w w4) (f5 : w3.heap.size ≤ w4.heap.size)
    (hX : Below w4.heap.size w4 X) (h74 : w.cell? ⟨p, 74, none⟩ = some va) (hoa : w4.ownsRow (p + 1) 218 2 va P.length (aboveC P)) (hg : X.grownBy w5 va.ownBlock)
    (ho5 : w5.ownsRow (p + 1) 218 2 (.slice (some ⟨g5, 0, none⟩) (P.length + 1) cap5) (P.length + 1) (aboveC P ++ [.int .i64 x, .int .i64 y])) (hx : (a : Int) = x) (hy : (b : Int) = y)
    (hP5 : w5.heap[p]? = w4.heap[p]?) (hbox : w4.heap[p]? = some (.cells cs ty (0, 0))) :
    WalkG w0 (w5.setCell ⟨p, 74, none⟩ (.slice (some ⟨g5, 0, none⟩) (P.length + 1) cap5)) p r ex (((a, b), true) :: P) vs vf vf2 ∧ KeptP w (w5.setCell ⟨p, 74, none⟩ (.slice (some ⟨g5, 0, none⟩) (P.length + 1) cap5)) p := by
  have hp4 : p < w4.heap.size := f1.lt
  have hb45 : Below (p + 1) w4 w5 := (hX.mono (by omega)).grown hg (by have := hX.size; omega) (fun q hq => (hoa.lt q hq).1)
  have hbox5 : w5.heap[p]? = some (.cells cs ty (0, 0)) := hP5.trans hbox
  have hk : ∀ k, k ≠ 74 → (w5.setCell ⟨p, 74, none⟩ (.slice (some ⟨g5, 0, none⟩) (P.length + 1) cap5)).cell? ⟨p, k, none⟩ = w4.cell? ⟨p, k, none⟩ := fun k hk => by
    rw [World.cell?_setCell_other _ _ _ _ (by intro h; simp only [Addr.mk.injEq] at h; omega)]; exact cell_p hbox hP5
  have ho : ∀ k u, (k < 8 ∨ 75 ≤ k) → w.cell? ⟨p, k, none⟩ = some u → (w5.setCell ⟨p, 74, none⟩ (.slice (some ⟨g5, 0, none⟩) (P.length + 1) cap5)).cell? ⟨p, k, none⟩ = some u := fun k u h1 h2 => (hk k (by omega)).trans (f2 k u (by omega) h2)
  have h74' : 74 < cs.size := by
    have h1 := f2 74 va (by omega) h74
    rw [cell_of_row w4 p 74 _ _ _ hbox] at h1
    exact (Array.getElem?_eq_some_iff.1 h1).1
  have hsame := heap_setCell_same w5 p 74 _ _ (.slice (some ⟨g5, 0, none⟩) (P.length + 1) cap5) hbox5
  refine ⟨⟨hw.size, ?_, ho 0 _ (by omega) hw.c0, ho 1 _ (by omega) hw.c1, ho 2 _ (by omega) hw.c2, ho 5 _ (by omega) hw.c5, ho 7 _ (by omega) hw.c7, ⟨⟨_, _, hsame⟩, (hk 8 (by omega)).trans f1.c0, (hk 9 (by omega)).trans f1.c1, fun a' b' ha hb => (hk _ (by omega)).trans (f1.said a' b' ha hb)⟩, ⟨.slice (some ⟨g5, 0, none⟩) (P.length + 1) cap5, ?_, ?_⟩, fun k u hk1 hk2 => ho k u (by omega) (hw.rest k u hk1 hk2)⟩, ?_, ?_⟩
  · have h1 : Below p w w5 := f4.trans (hb45.mono (by omega))
    exact hw.below.trans (h1.setCell (Nat.le_refl _) _)
  · rw [cell_of_row _ p 74 _ _ _ hsame]; simp [h74']
  · rw [above_snoc, hx, hy]
    exact ownsRow_setCell_other ho5 (by intro h; have := (ho5.lt p h).1; omega) _
  · show w.heap.size ≤ _
    have h1 := h3.size
    have h2 := hb45.size
    simp; omega
  · intro va' hva' k hk1 hk2 hk3
    rw [h74] at hva'
    cases hva'
    have h9 : k < w3.heap.size := Nat.lt_of_lt_of_le hk1 h3.size
    have e1 : (w5.setCell ⟨p, 74, none⟩ (.slice (some ⟨g5, 0, none⟩) (P.length + 1) cap5)).heap[k]? = w5.heap[k]? := by
      exact Below.heap_setCell w5 _ _ k hk2
    rw [e1, hg.block k (by have := hX.size; omega) (fun h => hk3 h.symm), hX.block k (by omega), f3 k h9 hk2, h3.block k hk1]
set_option maxRecDepth 100000 in
set_option maxHeartbeats 4000000 in
theorem enter_yes (w0 w : World) (p : Nat) (r : Rd) (ex : Nat → Option Value) (P : PathT) (v vs vf : Value) (af : Option Addr) (cf a b : Nat) (hok : RdOk r) (hr : ListR w v [(a : Int), (b : Int)]) (hw : WalkG w0 w p r ex P vs vf (.slice af (r.stops.length + 1 : Nat) cf)) (hP : P.length ≤ 1000) (han : a ≤ r.stops.length) (hbn : b ≤ r.stops.length) (hab : a ≠ b) (hsd : tabP P a b = 0) :
    Calls Tryz.prog 89 #[.pointer (some ⟨p, 8, none⟩), v] w fun e w' => e = .returned (.bool true) ∧ WalkG w0 w' p r ex (((a, b), true) :: P) vs vf (.slice af (r.stops.length + 1 : Nat) cf) ∧ KeptP w w' p := by
  have hns := hok.nstops
  obtain ⟨i0, hi, hz0, hz1, hz2⟩ := info_parts Tryz.infoBranch
  obtain ⟨ao, c, rfl, hrr⟩ := hr
  have HW := hid hw
  have hpl := hw.arcs.lt
  have hsz : saidZ r.stops.length (tabP P) (a : Int) (b : Int) = 0 := by
    unfold saidZ; rw [if_pos ⟨⟨by omega, by omega⟩, ⟨by omega, by omega⟩, by omega⟩]; exact hsd
  obtain ⟨g, hao, hgl, q0⟩ := hrr 0 (by simp)
  obtain ⟨g', hao', _, q1⟩ := hrr 1 (by simp)
  subst hao
  cases hao'
  have q0 : w.cell? ⟨g, 0, none⟩ = some (.int .i64 (a : Int)) := q0
  have q1 : w.cell? ⟨g, 1, none⟩ = some (.int .i64 (b : Int)) := q1
  have HSD : Hid (∀ W, Below w.heap.size w W → Calls Tryz.prog 146 #[.pointer (some ⟨p, 8, none⟩), .int .i64 (a : Int), .int .i64 (b : Int)] W fun e w' => e = .returned (.int .i64 0) ∧ Below W.heap.size W w') := fun W hW => by rw [← hsz]; exact said_any p 8 r (tabP P) af cf r.stops.length a b W hns (hw.arcs.below hW)
  generalize hx : (a : Int) = x at *
  generalize hy : (b : Int) = y at *
  have HX := hid hx
  have HY := hid hy
  have hlen : ([x, y] : List Int).length = 2 := rfl
  rw [hlen]
  clear hrr hw hx hy hsz hlen
  go_enter Tryz.func89, Tryz.ntmps89
  go_wp2_with fail
  go_region_held3 (fun w' => w'.cell? ⟨g, 0, none⟩ = some (.int .i64 x) ∧ w'.cell? ⟨g, 1, none⟩ = some (.int .i64 y)) (go_keep) (fail)
  obtain ⟨W1, hW1⟩ : ∃ W1, W1 = (w.alloc (.cells #[.int .i64 x, .int .i64 y] 218)).drew := ⟨_, rfl⟩
  rw [← hW1]
  have HB1 : Hid (Below w.heap.size w W1) := by rw [hW1]; exact (below1 w _).drew
  have hbx : W1.heap[w.heap.size]? = some (.cells #[.int .i64 x, .int .i64 y] 218 (0, 0)) := by rw [hW1]; exact heap_alloc_new w _
  have k0 : W1.cell? ⟨w.heap.size, 0, none⟩ = some (.int .i64 x) := cell_of_row W1 _ 0 _ _ _ hbx
  have k1 : W1.cell? ⟨w.heap.size, 1, none⟩ = some (.int .i64 y) := cell_of_row W1 _ 1 _ _ _ hbx
  have kl : w.heap.size < W1.heap.size := (Array.getElem?_eq_some_iff.1 hbx).1
  have HCW : Hid (∀ W, Below W1.heap.size W1 W → Calls Tryz.prog 146 #[.pointer (some ⟨p, 8, none⟩), .int .i64 x, .int .i64 y] W fun e w' => e = .returned (.int .i64 0) ∧ w'.cell? ⟨w.heap.size, 0, none⟩ = some (.int .i64 x) ∧ w'.cell? ⟨w.heap.size, 1, none⟩ = some (.int .i64 y) ∧ Hid (Below W1.heap.size W1 w')) := fun W hW => by
    refine (HSD.out W (HB1.out.trans (hW.mono HB1.out.size))).mono ?_
    rintro e w' ⟨h1, h2⟩
    have h3 : Below W1.heap.size W1 w' := hW.trans (h2.mono hW.size)
    exact ⟨h1, (h3.cell (by exact kl)).trans k0, (h3.cell (by exact kl)).trans k1, h3⟩
  have HBX := hid hbx
  clear hW1 hbx q0 q1 HSD
  go_wp2_with fail
  go_region_held3 (fun w' => w'.cell? ⟨w.heap.size, 0, none⟩ = some (.int .i64 x) ∧ w'.cell? ⟨w.heap.size, 1, none⟩ = some (.int .i64 y)) (go_keep) (first | (go_at_call 146; refine (HCW.out _ (by first | exact Below.refl _ _ | exact (Below.refl _ _).drew)).mono ?_; rintro e3 w3 ⟨rfl, z0, z1, HB3⟩))
  have HW3 : Hid (Below w.heap.size w w3) := HB1.out.trans (HB3.out.mono HB1.out.size)
  have HBX3 : Hid (w3.heap[w.heap.size]? = _) := (HB3.out.block _ kl).trans HBX.out
  have hpw3 : p < w3.heap.size := Nat.lt_of_lt_of_le hpl HW3.out.size
  have hbl3 : w.heap.size < w3.heap.size := Nat.lt_of_lt_of_le kl HB3.out.size
  have HCX : Hid (∀ W, Below w3.heap.size w3 W → Calls Tryz.prog 147 #[.pointer (some ⟨p, 8, none⟩), .int .i64 x, .int .i64 y, .int .i64 1] W fun e w' => e = .returned (.tuple #[]) ∧ w'.cell? ⟨w.heap.size, 0, none⟩ = some (.int .i64 x) ∧ w'.cell? ⟨w.heap.size, 1, none⟩ = some (.int .i64 y) ∧ Hid (ArcsAt w' p 8 r (upd (tabP P) a b 1) (.slice af (r.stops.length + 1 : Nat) cf) ∧ (∀ k u, k < 8 ∨ 74 ≤ k → w.cell? ⟨p, k, none⟩ = some u → w'.cell? ⟨p, k, none⟩ = some u) ∧ (∀ k, k < w3.heap.size → k ≠ p → w'.heap[k]? = w3.heap[k]?) ∧ Below p w w' ∧ w3.heap.size ≤ w'.heap.size)) := fun W hW => by
    have hWW : Below w.heap.size w W := HW3.out.trans (hW.mono HW3.out.size)
    refine (say_any p 8 r (tabP P) af cf r.stops.length x y 1 W hns (HW.out.arcs.below hWW)).mono ?_
    rintro e w' ⟨h1, h2, h3, h4, h5⟩
    have hbk : w'.heap[w.heap.size]? = w3.heap[w.heap.size]? := by
      rw [h4 _ (Nat.lt_of_lt_of_le hbl3 hW.size) (by omega)]; exact hW.block _ hbl3
    have hbk2 : w'.heap[w.heap.size]? = some (.cells #[.int .i64 x, .int .i64 y] 218 (0, 0)) := hbk.trans HBX3.out
    refine ⟨h1, cell_of_row w' _ 0 _ _ _ hbk2, cell_of_row w' _ 1 _ _ _ hbk2, ?_, fun k u hk hu => h3 k u (by omega) ((hWW.cell (by exact hpl)).trans hu), fun k hk hne => ?_, (hWW.mono (Nat.le_of_lt hpl)).trans h5, Nat.le_trans hW.size h5.size⟩
    · have e2 : sayZ r.stops.length (tabP P) x y 1 = upd (tabP P) a b 1 := by
        unfold sayZ
        rw [← HX.out, ← HY.out, if_pos ⟨⟨by omega, by omega⟩, ⟨by omega, by omega⟩, by omega⟩]; simp
      rw [← e2]; exact h2
    · rw [h4 k (Nat.lt_of_lt_of_le hk hW.size) hne]; exact hW.block k hk
  clear HCW k0 k1 HBX
  go_wp2_with fail
  go_region_held3 (fun w' => w'.cell? ⟨w.heap.size, 0, none⟩ = some (.int .i64 x) ∧ w'.cell? ⟨w.heap.size, 1, none⟩ = some (.int .i64 y)) (go_keep) (first | (go_at_call 147; refine (HCX.out _ (by first | exact Below.refl _ _ | exact (Below.refl _ _).drew)).mono ?_; rintro e4 w4 ⟨rfl, t0, t1, HF4⟩))
  clear HCX z0 z1
  obtain ⟨f1, f2, f3, f4, f5⟩ := HF4.out
  obtain ⟨va, g74, hoa⟩ := HW.out.above
  have a74 : w4.cell? ⟨p, 74, none⟩ = some va := f2 74 va (by omega) g74
  have hoa3 : w3.ownsRow (p + 1) 218 2 va P.length (aboveC P) := own_below hoa HW3.out
  have hoa4 : w4.ownsRow (p + 1) 218 2 va P.length (aboveC P) := own_other hoa3 (fun q hq => by have h9 := hoa3.lt q hq; exact f3 q h9.2 (by omega))
  obtain ⟨av, cv, rfl, _, _⟩ := own_val hoa4
  have HOA := hid hoa4
  have af4 := f1.frozen 74
  have hp4 : p < w4.heap.size := f1.lt
  have hp5 : p + 1 < w4.heap.size := by omega
  have G74 := hid g74
  clear f1 f2 f3 f4 f5 g74 hoa hoa4
  obtain ⟨cs, ty, hbox⟩ := HF4.out.1.box
  have HBOX := hid hbox
  clear hbox
  go_wp2_with fail
  go_region_law (refine step_append_own rfl (.tmp 37) (.tmp 39) 88 rfl (p + 1) 218 i0 (.agg #[.int .i64 0, .int .i64 0]) 2 16 Tryz.underlying88 hi hz0 hz1 hz2 rfl (by decide) (.slice av P.length cv) P.length (aboveC P) (by simp [Act.eval]) (by exact own_new rfl HOA.out rfl) ⟨w4.heap.size, 0, none⟩ 1 1 [.int .i64 x, .int .i64 y] (by simp [Act.eval]) rfl (by exact news_at rfl rfl) (by intro u hu; simp at hu; rcases hu with rfl | rfl <;> rfl) (by unfold maxLen; omega) (by omega) (by exact lt_new rfl (Nat.le_refl (p + 1)) hp5) ?_; intro v5 w5 hown5 hgr5; have HO5 := hid hown5; have HG5 := hid hgr5; have HP5 : Hid (w5.heap[p]? = w4.heap[p]?) := kept_p (w := w4) (by exact rfl) hp4 HOA.out hgr5; obtain ⟨g5, cap5, cur5, hv5, _, _, _⟩ := own_shape hown5 (by omega); clear hown5 hgr5; subst hv5; have c5 : w5.cell? ⟨p, 74, none⟩ = some (.slice av P.length cv) := (cell_p (k := 74) HBOX.out HP5.out).trans a74; have f5 : w5.frozen? ⟨p, 74, none⟩ = false := frozen_of_row w5 p 74 _ _ (HP5.out.trans HBOX.out))
  all_goals
    go_wp2
    go_ret
    exact ⟨rfl, enter_left HW.out HW3.out HF4.out.1 HF4.out.2.1 HF4.out.2.2.1 HF4.out.2.2.2.1 HF4.out.2.2.2.2 (below1 w4 _).drew G74.out HOA.out HG5.out HO5.out HX.out HY.out HP5.out HBOX.out⟩
end Go.Proofs.YtebinaopncclgabGreatDoor
namespace Go.Proofs.YtebinaopncclgabGreatDoor
open Go.RowKit Go.IntWalk

theorem leave_said {n a b : Nat} {s : Bool} {P : PathT} (h : PathOk n (((a, b), s) :: P)) : saidZ n (tabP (((a, b), s) :: P)) (a : Int) (b : Int) = if s = true then 1 else 2 := by
  have h1 := tab_mem h (List.mem_cons_self ..)
  unfold saidZ
  rw [if_pos ⟨⟨by omega, by omega⟩, ⟨by omega, by omega⟩, by omega⟩]
  exact h1.1
theorem leave_over (a b : Nat) (s : Bool) (P : PathT) : upd (tabP (((a, b), s) :: P)) a b 2 = tabP (((a, b), false) :: P) := by
  funext x y
  show (if x = a ∧ y = b then 2 else upd (tabP P) a b (if s = true then 1 else 2) x y) = upd (tabP P) a b (if false = true then 1 else 2) x y
  unfold upd
  by_cases e : x = a ∧ y = b
  · simp [e]
  · simp [e]
theorem leave_free {a b : Nat} {s : Bool} {P : PathT} (h : tabP P a b = 0) : upd (tabP (((a, b), s) :: P)) a b 0 = tabP P := by
  funext x y
  show (if x = a ∧ y = b then 0 else upd (tabP P) a b (if s = true then 1 else 2) x y) = tabP P x y
  unfold upd
  by_cases e : x = a ∧ y = b
  · rw [if_pos e, e.1, e.2, h]
  · simp [e]
theorem sayZ_arc {n a b : Nat} {T : Nat → Nat → Int} {v : Int} (h1 : a ≤ n) (h2 : b ≤ n) (h3 : a ≠ b) : sayZ n T (a : Int) (b : Int) v = upd T a b v := by
  unfold sayZ
  rw [if_pos ⟨⟨by omega, by omega⟩, ⟨by omega, by omega⟩, by omega⟩]; simp
def lenAt (w : World) (p : Nat) : Nat := match w.cell? ⟨p, 74, none⟩ with | some (.slice _ n _) => n | _ => 0
/- all but the walk's box is as it was -/
def KeptB (w w' : World) (p : Nat) : Prop := w.heap.size ≤ w'.heap.size ∧ ∀ k, k < w.heap.size → k ≠ p → w'.heap[k]? = w.heap[k]?
theorem KeptB.trans {a b c : World} {p : Nat} (h : KeptB a b p) (k : KeptB b c p) : KeptB a c p := ⟨Nat.le_trans h.1 k.1, fun i h1 h2 => (k.2 i (Nat.lt_of_lt_of_le h1 h.1) h2).trans (h.2 i h1 h2)⟩
theorem KeptB.of_below {a b : World} {p : Nat} (h : Below a.heap.size a b) : KeptB a b p := ⟨h.size, fun i h1 _ => h.block i h1⟩

theorem own_cut2 {w : World} {B g n cap size n' : Nat} {e : TypeId} {xs : List Value} (h : w.ownsRow B e size (.slice (some ⟨g, 0, none⟩) n cap) n xs) (hn : n' ≤ n) : w.ownsRow B e size (.slice (some ⟨g, 0, none⟩) n' cap) n' (xs.take (n' * size)) := by
  have hm : n' * size ≤ n * size := Nat.mul_le_mul_right _ hn
  rcases h.2 with ⟨h0, _⟩ | ⟨g', cap', cur, hv, hb, hg, h1, h2, h3, h4⟩
  · cases h0
  · cases hv
    refine ⟨by rw [List.length_take, h.1]; omega, .inr ⟨g, cap, cur, rfl, hb, hg, by omega, h2, h3, ?_⟩⟩
    rw [← h4, List.take_take, Nat.min_eq_left hm]
theorem own_cap {w : World} {B g n cap size : Nat} {e : TypeId} {xs : List Value} (h : w.ownsRow B e size (.slice (some ⟨g, 0, none⟩) n cap) n xs) : n ≤ cap := by
  rcases h.2 with ⟨h0, _⟩ | ⟨g', cap', cur, hv, _, _, h1, _⟩
  · cases h0
  · cases hv; exact h1
theorem walk_say {w0 w w3 w4 : World} {p : Nat} {r : Rd} {ex : Nat → Option Value} {P Q : PathT} {vs vf vf2 : Value} {T : Nat → Nat → Int} (hw : WalkG w0 w p r ex P vs vf vf2) (h3 : Below w.heap.size w w3) (f1 : ArcsAt w4 p 8 r T vf2)
    (f2 : ∀ k u, k < 8 ∨ 74 ≤ k → w.cell? ⟨p, k, none⟩ = some u → w4.cell? ⟨p, k, none⟩ = some u) (f3 : ∀ k, k < w3.heap.size → k ≠ p → w4.heap[k]? = w3.heap[k]?) (f4 : Below p w w4) (f5 : w3.heap.size ≤ w4.heap.size) (hT : T = tabP Q) (ha : aboveC Q = aboveC P) (hl : Q.length = P.length) :
    WalkG w0 w4 p r ex Q vs vf vf2 ∧ KeptB w w4 p := by
  obtain ⟨va, g74, hoa⟩ := hw.above
  have hoa3 := own_below hoa h3
  refine ⟨⟨hw.size, hw.below.trans f4, f2 0 _ (by omega) hw.c0, f2 1 _ (by omega) hw.c1, f2 2 _ (by omega) hw.c2, f2 5 _ (by omega) hw.c5, f2 7 _ (by omega) hw.c7, hT ▸ f1, ⟨va, f2 74 _ (by omega) g74, ?_⟩, fun k u hk1 hk2 => f2 k u (by omega) (hw.rest k u hk1 hk2)⟩, Nat.le_trans h3.size f5, fun k h1 h2 => (f3 k (Nat.lt_of_lt_of_le h1 h3.size) h2).trans (h3.block k h1)⟩
  rw [ha, hl]
  exact own_other hoa3 (fun q hq => by have h9 := hoa3.lt q hq; exact f3 q h9.2 (by omega))
theorem walk_cut2 {w0 w : World} {p g m cv a b : Nat} {s : Bool} {r : Rd} {ex : Nat → Option Value} {Q : PathT} {vs vf vf2 : Value} (hsz : w0.heap.size = p) (hbl : Below p w0 w) (c0 : w.cell? ⟨p, 0, none⟩ = some (.int .i64 r.vans)) (c1 : w.cell? ⟨p, 1, none⟩ = some (.int .i64 r.load)) (c2 : w.cell? ⟨p, 2, none⟩ = some (.int .i64 r.close)) (c5 : w.cell? ⟨p, 5, none⟩ = some vs) (c7 : w.cell? ⟨p, 7, none⟩ = some vf) (crest : ∀ k u, 75 ≤ k → ex k = some u → w.cell? ⟨p, k, none⟩ = some u)
    (ha : ArcsAt w p 8 r (tabP Q) vf2) (hm : m = Q.length) (h74 : w.cell? ⟨p, 74, none⟩ = some (.slice (some ⟨g, 0, none⟩) (m + 1) cv)) (hoa : w.ownsRow (p + 1) 218 2 (.slice (some ⟨g, 0, none⟩) (m + 1) cv) (List.length (((a, b), s) :: Q)) (aboveC (((a, b), s) :: Q))) :
    WalkG w0 (w.setCell ⟨p, 74, none⟩ (.slice (some ⟨g, 0, none⟩) m cv)) p r ex Q vs vf vf2 ∧ KeptB w (w.setCell ⟨p, 74, none⟩ (.slice (some ⟨g, 0, none⟩) m cv)) p ∧ lenAt (w.setCell ⟨p, 74, none⟩ (.slice (some ⟨g, 0, none⟩) m cv)) p < lenAt w p := by
  obtain ⟨cs, ty, hbox⟩ := ha.box
  have hk : ∀ k, k ≠ 74 → (w.setCell ⟨p, 74, none⟩ (.slice (some ⟨g, 0, none⟩) m cv)).cell? ⟨p, k, none⟩ = w.cell? ⟨p, k, none⟩ := fun k hk => World.cell?_setCell_other _ _ _ _ (by intro h; simp only [Addr.mk.injEq] at h; omega)
  have h74' : 74 < cs.size := by
    rw [cell_of_row w p 74 _ _ _ hbox] at h74
    exact (Array.getElem?_eq_some_iff.1 h74).1
  have hsame := heap_setCell_same w p 74 _ _ (.slice (some ⟨g, 0, none⟩) m cv) hbox
  have hc74 : (w.setCell ⟨p, 74, none⟩ (.slice (some ⟨g, 0, none⟩) m cv)).cell? ⟨p, 74, none⟩ = some (.slice (some ⟨g, 0, none⟩) m cv) := by rw [cell_of_row _ p 74 _ _ _ hsame]; simp [h74']
  have hoa' : w.ownsRow (p + 1) 218 2 (.slice (some ⟨g, 0, none⟩) (m + 1) cv) (m + 1) (aboveC (((a, b), s) :: Q)) := by
    have e : List.length (((a, b), s) :: Q) = m + 1 := by rw [hm]; rfl
    rw [e] at hoa; exact hoa
  have hcut := own_cut2 (n' := m) hoa' (by omega)
  have htk : (aboveC (((a, b), s) :: Q)).take (m * 2) = aboveC Q := by
    rw [above_snoc]
    have hal : (aboveC Q).length = m * 2 := by
      rw [hm]; unfold aboveC
      have : ∀ L : PathT, ((L.map fun q => [Value.int .i64 q.1.1, Value.int .i64 q.1.2]).flatten).length = L.length * 2 := by
        intro L
        induction L with
        | nil => rfl
        | cons q L ih => simp only [List.map_cons, List.flatten_cons, List.length_append, ih]; simp; omega
      rw [this]; simp
    rw [← hal, List.take_left]
  rw [htk] at hcut
  refine ⟨⟨hsz, hbl.setCell (Nat.le_refl _) _, (hk 0 (by omega)).trans c0, (hk 1 (by omega)).trans c1, (hk 2 (by omega)).trans c2, (hk 5 (by omega)).trans c5, (hk 7 (by omega)).trans c7, ⟨⟨_, _, hsame⟩, (hk 8 (by omega)).trans ha.c0, (hk 9 (by omega)).trans ha.c1, fun a' b' h1 h2 => (hk _ (by omega)).trans (ha.said a' b' h1 h2)⟩, ⟨_, hc74, ?_⟩, fun k u hk1 hk2 => (hk k (by omega)).trans (crest k u hk1 hk2)⟩, ⟨by simp, fun k _ h2 => Below.heap_setCell w _ _ k h2⟩, ?_⟩
  · rw [← hm]
    exact ownsRow_setCell_other hcut (by intro h; have := (hcut.lt p h).1; omega) _
  · unfold lenAt
    rw [hc74, h74]; dsimp only; omega

theorem walk_drew {w0 w : World} {p : Nat} {r : Rd} {ex : Nat → Option Value} {P : PathT} {vs vf vf2 : Value} (h : WalkG w0 w p r ex P vs vf vf2) : WalkG w0 w.drew p r ex P vs vf vf2 := by
  obtain ⟨va, g1, g2⟩ := h.above
  exact ⟨h.size, h.below.drew, h.c0, h.c1, h.c2, h.c5, h.c7, ⟨h.arcs.box, h.arcs.c0, h.arcs.c1, h.arcs.said⟩, ⟨va, g1, own_heap g2 rfl⟩, h.rest⟩
theorem walk_free {w0 w w3 w4 : World} {p g m cv a b : Nat} {r : Rd} {ex : Nat → Option Value} {Q : PathT} {vs vf vf2 : Value} (hw : WalkG w0 w p r ex (((a, b), false) :: Q) vs vf vf2) (h3 : Below w.heap.size w w3) (f1 : ArcsAt w4 p 8 r (upd (tabP (((a, b), false) :: Q)) a b 0) vf2)
    (f2 : ∀ k u, k < 8 ∨ 74 ≤ k → w.cell? ⟨p, k, none⟩ = some u → w4.cell? ⟨p, k, none⟩ = some u) (f3 : ∀ k, k < w3.heap.size → k ≠ p → w4.heap[k]? = w3.heap[k]?) (f4 : Below p w w4) (f5 : w3.heap.size ≤ w4.heap.size) (hT : tabP Q a b = 0) (hm : m = Q.length) (h74 : w.cell? ⟨p, 74, none⟩ = some (.slice (some ⟨g, 0, none⟩) (m + 1) cv)) :
    WalkG w0 (w4.setCell ⟨p, 74, none⟩ (.slice (some ⟨g, 0, none⟩) m cv)) p r ex Q vs vf vf2 ∧ KeptB w (w4.setCell ⟨p, 74, none⟩ (.slice (some ⟨g, 0, none⟩) m cv)) p ∧ lenAt (w4.setCell ⟨p, 74, none⟩ (.slice (some ⟨g, 0, none⟩) m cv)) p < lenAt w p := by
  rw [leave_free hT] at f1
  obtain ⟨va, g74, hoa⟩ := hw.above
  have e74 := f2 74 _ (by omega) h74
  rw [h74] at g74
  cases g74
  have hoa3 := own_below hoa h3
  have hoa4 : w4.ownsRow (p + 1) 218 2 (.slice (some ⟨g, 0, none⟩) (m + 1) cv) (List.length (((a, b), false) :: Q)) (aboveC (((a, b), false) :: Q)) := own_other hoa3 (fun q hq => by have h9 := hoa3.lt q hq; exact f3 q h9.2 (by omega))
  have hk4 : KeptB w w4 p := ⟨Nat.le_trans h3.size f5, fun k h1 h2 => (f3 k (Nat.lt_of_lt_of_le h1 h3.size) h2).trans (h3.block k h1)⟩
  have hc := walk_cut2 hw.size (hw.below.trans f4) (f2 0 _ (by omega) hw.c0) (f2 1 _ (by omega) hw.c1) (f2 2 _ (by omega) hw.c2) (f2 5 _ (by omega) hw.c5) (f2 7 _ (by omega) hw.c7) (fun k u hk1 hk2 => f2 k u (by omega) (hw.rest k u hk1 hk2)) f1 hm e74 hoa4
  refine ⟨hc.1, hk4.trans hc.2.1, ?_⟩
  have h9 := hc.2.2
  unfold lenAt at h9 ⊢
  rw [h74]
  rw [e74] at h9
  exact h9
set_option maxRecDepth 100000 in
set_option maxHeartbeats 4000000 in
theorem leave_any (w0 w : World) (p : Nat) (r : Rd) (ex : Nat → Option Value) (P : PathT) (vs vf : Value) (af : Option Addr) (cf : Nat) (hok : RdOk r) (hP : PathOk r.stops.length P) (hl : P.length ≤ 1000) (hw : WalkG w0 w p r ex P vs vf (.slice af (r.stops.length + 1 : Nat) cf)) :
    Calls Tryz.prog 90 #[.pointer (some ⟨p, 8, none⟩)] w fun e w' => e = .returned (.bool (!(leaveP P).isEmpty)) ∧ WalkG w0 w' p r ex (leaveP P) vs vf (.slice af (r.stops.length + 1 : Nat) cf) ∧ KeptB w w' p := by
  have hns := hok.nstops
  have HW := hid hw
  have HP := hid hP
  clear hw hP
  go_enter Tryz.func90, Tryz.ntmps90
  go_wp2_with fail
  go_loopw [] (fun wr => ∃ Q : PathT, Hid (WalkG w0 wr p r ex Q vs vf (.slice af (r.stops.length + 1 : Nat) cf)) ∧ Hid (PathOk r.stops.length Q) ∧ Q.length ≤ 1000 ∧ Hid (leaveP Q = leaveP P) ∧ Hid (KeptB w wr p)) (fun wr => lenAt wr p)
  case atStart => exact ⟨P, HW, HP, hl, rfl, Nat.le_refl _, fun _ _ _ => rfl⟩
  case round =>
    obtain ⟨Q, HQ, HPQ, hql, HLE, HK⟩ := hrel
    obtain ⟨va, g74, hoa⟩ := HQ.out.above
    obtain ⟨av, cv, rfl, _, _⟩ := own_val hoa
    have hp := HQ.out.arcs.lt
    have hfz := HQ.out.arcs.frozen 74
    have HOA := hid hoa
    clear hoa
    cases Q with
    | nil =>
      go_wp2_with fail
      go_ret
      exact ⟨by rw [← HLE.out]; rfl, (by rw [← HLE.out]; exact HQ.out), HK.out⟩
    | cons q Q =>
      obtain ⟨⟨a, b⟩, s⟩ := q
      have hlen : List.length (((a, b), s) :: Q) = Q.length + 1 := rfl
      rw [hlen] at g74 HOA hql
      obtain ⟨g, cap, cur, hva, hgp, _, _⟩ := own_shape HOA.out (by omega)
      cases hva
      have hgl : g < wr.heap.size := (HOA.out.lt g rfl).2
      obtain ⟨m, hm⟩ : ∃ m, m = Q.length := ⟨_, rfl⟩
      have hal : (aboveC Q).length = m * 2 := by
        rw [hm]; unfold aboveC
        have : ∀ L : PathT, ((L.map fun q => [Value.int .i64 q.1.1, Value.int .i64 q.1.2]).flatten).length = L.length * 2 := by
          intro L
          induction L with
          | nil => rfl
          | cons q L ih => simp only [List.map_cons, List.flatten_cons, List.length_append, ih]; simp; omega
        rw [this]; simp
      rw [← hm] at g74 HOA hql
      have r0 : wr.cell? ⟨g, m * 2, none⟩ = some (.int .i64 (a : Int)) := by
        have h1 := HOA.out.cellAt (m * 2) (by omega)
        rw [above_snoc, List.getElem?_append_right (by omega), hal, Nat.sub_self] at h1
        exact h1
      have r1 : wr.cell? ⟨g, m * 2 + 1, none⟩ = some (.int .i64 (b : Int)) := by
        have h1 := HOA.out.cellAt (m * 2 + 1) (by omega)
        rw [above_snoc, List.getElem?_append_right (by omega), hal, Nat.add_sub_cancel_left] at h1
        exact h1
      have HM := hid hm
      have wz : IntKind.i64.wrap (((m + 1 : Nat) : Int) - 1) = (m : Int) := by rw [i64_fits _ (by omega)]; omega
      have wz2 : IntKind.i64.wrap ((m : Int) + 1 - 1) = (m : Int) := by rw [i64_fits _ (by omega)]; omega
      have wz3 : IntKind.i64.wrap (m : Int) = (m : Int) := i64_fits _ (by omega)
      have im : (0 : Int) ≤ (m : Int) := by omega
      have jm : (m : Int) < (m : Int) + 1 := by omega
      have jm2 : (m : Int) < ((m + 1 : Nat) : Int) := by omega
      have HSD := hid (leave_said HPQ.out)
      have HAB : Hid (a ≤ r.stops.length ∧ b ≤ r.stops.length ∧ a ≠ b ∧ tabP Q a b = 0 ∧ PathOk r.stops.length Q) := by
        cases HPQ.out with
        | cons h1 h2 h3 h4 h5 => exact ⟨h1, h2, h3, h4, h5⟩
      obtain ⟨x, hx⟩ : ∃ x : Int, x = (a : Int) := ⟨_, rfl⟩
      obtain ⟨y, hy⟩ : ∃ y : Int, y = (b : Int) := ⟨_, rfl⟩
      rw [← hx] at r0 HSD
      rw [← hy] at r1 HSD
      have HX := hid hx
      have HY := hid hy
      clear hx hy hal hm hlen
      go_wp2_with fail
      go_region_held3 (fun w' => w'.cell? ⟨p, 74, none⟩ = some (.slice (some ⟨g, 0, none⟩) (m + 1) cv) ∧ w'.cell? ⟨g, m * 2, none⟩ = some (.int .i64 x) ∧ w'.cell? ⟨g, m * 2 + 1, none⟩ = some (.int .i64 y)) (go_keep) (fail)
      obtain ⟨W1, hW1⟩ : ∃ W1, W1 = (wr.alloc (.cells #[.int .i64 x, .int .i64 y] 218)).drew := ⟨_, rfl⟩
      rw [← hW1]
      have HB1 : Hid (Below wr.heap.size wr W1) := by rw [hW1]; exact (below1 wr _).drew
      have hbx : W1.heap[wr.heap.size]? = some (.cells #[.int .i64 x, .int .i64 y] 218 (0, 0)) := by rw [hW1]; exact heap_alloc_new wr _
      have k0 : W1.cell? ⟨wr.heap.size, 0, none⟩ = some (.int .i64 x) := cell_of_row W1 _ 0 _ _ _ hbx
      have k1 : W1.cell? ⟨wr.heap.size, 1, none⟩ = some (.int .i64 y) := cell_of_row W1 _ 1 _ _ _ hbx
      have kl : wr.heap.size < W1.heap.size := (Array.getElem?_eq_some_iff.1 hbx).1
      have HCW : Hid (∀ W, Below W1.heap.size W1 W → Calls Tryz.prog 146 #[.pointer (some ⟨p, 8, none⟩), .int .i64 x, .int .i64 y] W fun e w' => e = .returned (.int .i64 (if s = true then 1 else 2)) ∧ w'.cell? ⟨wr.heap.size, 0, none⟩ = some (.int .i64 x) ∧ w'.cell? ⟨wr.heap.size, 1, none⟩ = some (.int .i64 y) ∧ Hid (Below W1.heap.size W1 w')) := fun W hW => by
        have hWW := HB1.out.trans (hW.mono HB1.out.size)
        refine (said_any p 8 r (tabP (((a, b), s) :: Q)) af cf r.stops.length x y W hns (HQ.out.arcs.below hWW)).mono ?_
        rintro e w' ⟨h1, h2⟩
        have h3 : Below W1.heap.size W1 w' := hW.trans (h2.mono hW.size)
        rw [HSD.out] at h1
        exact ⟨h1, (h3.cell (by exact kl)).trans k0, (h3.cell (by exact kl)).trans k1, h3⟩
      have HBX := hid hbx
      clear hW1 hbx r0 r1
      cases s
      · have HCW2 : Hid (∀ W, Below W1.heap.size W1 W → Calls Tryz.prog 146 #[.pointer (some ⟨p, 8, none⟩), .int .i64 x, .int .i64 y] W fun e w' => e = .returned (.int .i64 2) ∧ w'.cell? ⟨wr.heap.size, 0, none⟩ = some (.int .i64 x) ∧ w'.cell? ⟨wr.heap.size, 1, none⟩ = some (.int .i64 y) ∧ Hid (Below W1.heap.size W1 w')) := HCW
        clear HCW HSD
        go_wp2_with fail
        go_region_held3 (fun w' => w'.cell? ⟨wr.heap.size, 0, none⟩ = some (.int .i64 x) ∧ w'.cell? ⟨wr.heap.size, 1, none⟩ = some (.int .i64 y)) (go_keep) (first | (go_at_call 146; refine (HCW2.out _ (by first | exact Below.refl _ _ | exact (Below.refl _ _).drew)).mono ?_; rintro e3 w3 ⟨rfl, z0, z1, HB3⟩))
        have HW3 : Hid (Below wr.heap.size wr w3) := HB1.out.trans (HB3.out.mono HB1.out.size)
        have HBX3 : Hid (w3.heap[wr.heap.size]? = _) := (HB3.out.block _ kl).trans HBX.out
        have hpw3 : p < w3.heap.size := Nat.lt_of_lt_of_le hp HW3.out.size
        have hbl3 : wr.heap.size < w3.heap.size := Nat.lt_of_lt_of_le kl HB3.out.size
        have HCX : Hid (∀ W, Below w3.heap.size w3 W → Calls Tryz.prog 147 #[.pointer (some ⟨p, 8, none⟩), .int .i64 x, .int .i64 y, .int .i64 0] W fun e w' => e = .returned (.tuple #[]) ∧ w'.cell? ⟨wr.heap.size, 0, none⟩ = some (.int .i64 x) ∧ w'.cell? ⟨wr.heap.size, 1, none⟩ = some (.int .i64 y) ∧ Hid (ArcsAt w' p 8 r (upd (tabP (((a, b), false) :: Q)) a b 0) (.slice af (r.stops.length + 1 : Nat) cf) ∧ (∀ k u, k < 8 ∨ 74 ≤ k → wr.cell? ⟨p, k, none⟩ = some u → w'.cell? ⟨p, k, none⟩ = some u) ∧ (∀ k, k < w3.heap.size → k ≠ p → w'.heap[k]? = w3.heap[k]?) ∧ Below p wr w' ∧ w3.heap.size ≤ w'.heap.size)) := fun W hW => by
          have hWW : Below wr.heap.size wr W := HW3.out.trans (hW.mono HW3.out.size)
          refine (say_any p 8 r (tabP (((a, b), false) :: Q)) af cf r.stops.length x y 0 W hns (HQ.out.arcs.below hWW)).mono ?_
          rintro e w' ⟨h1, h2, h3, h4, h5⟩
          have hbk : w'.heap[wr.heap.size]? = w3.heap[wr.heap.size]? := by
            rw [h4 _ (Nat.lt_of_lt_of_le hbl3 hW.size) (by omega)]; exact hW.block _ hbl3
          have hbk2 : w'.heap[wr.heap.size]? = some (.cells #[.int .i64 x, .int .i64 y] 218 (0, 0)) := hbk.trans HBX3.out
          rw [HX.out, HY.out, sayZ_arc HAB.out.1 HAB.out.2.1 HAB.out.2.2.1] at h2
          refine ⟨h1, cell_of_row w' _ 0 _ _ _ hbk2, cell_of_row w' _ 1 _ _ _ hbk2, h2, fun k u hk hu => h3 k u (by omega) ((hWW.cell (by exact hp)).trans hu), fun k hk hne => ?_, (hWW.mono (Nat.le_of_lt hp)).trans h5, Nat.le_trans hW.size h5.size⟩
          rw [h4 k (Nat.lt_of_lt_of_le hk hW.size) hne]; exact hW.block k hk
        clear HCW2 k0 k1 HBX
        go_wp2_with fail
        go_region_held3 (fun w' => w'.cell? ⟨wr.heap.size, 0, none⟩ = some (.int .i64 x) ∧ w'.cell? ⟨wr.heap.size, 1, none⟩ = some (.int .i64 y)) (go_keep) (first | (go_at_call 147; refine (HCX.out _ (by first | exact Below.refl _ _ | exact (Below.refl _ _).drew)).mono ?_; rintro e4 w4 ⟨rfl, t0, t1, HF4⟩))
        clear HCX z0 z1 t0 t1
        have a74 : w4.cell? ⟨p, 74, none⟩ = some (.slice (some ⟨g, 0, none⟩) (m + 1) cv) := HF4.out.2.1 74 _ (by omega) g74
        have hp4 : p < w4.heap.size := HF4.out.1.lt
        have hf4 := HF4.out.1.frozen 74
        have h1m : (m : Int) ≤ (cv : Int) := by have := own_cap HOA.out; omega
        have h0m : (0 : Int) ≤ (m : Int) := by omega
        go_wp2_with fail
        go_region
        all_goals
          go_wp2
          have hab := HAB.out
          have hfin := walk_free HQ.out HW3.out HF4.out.1 HF4.out.2.1 HF4.out.2.2.1 HF4.out.2.2.2.1 HF4.out.2.2.2.2 hab.2.2.2.1 HM.out g74
          exact ⟨⟨Q, walk_drew hfin.1, hab.2.2.2.2, by have := HM.out; omega, by show _ = _; rw [← HLE.out]; rfl, HK.out.trans ⟨hfin.2.1.1, hfin.2.1.2⟩⟩, hfin.2.2⟩
      · have HCW2 : Hid (∀ W, Below W1.heap.size W1 W → Calls Tryz.prog 146 #[.pointer (some ⟨p, 8, none⟩), .int .i64 x, .int .i64 y] W fun e w' => e = .returned (.int .i64 1) ∧ w'.cell? ⟨wr.heap.size, 0, none⟩ = some (.int .i64 x) ∧ w'.cell? ⟨wr.heap.size, 1, none⟩ = some (.int .i64 y) ∧ Hid (Below W1.heap.size W1 w')) := HCW
        clear HCW HSD
        go_wp2_with fail
        go_region_held3 (fun w' => w'.cell? ⟨wr.heap.size, 0, none⟩ = some (.int .i64 x) ∧ w'.cell? ⟨wr.heap.size, 1, none⟩ = some (.int .i64 y)) (go_keep) (first | (go_at_call 146; refine (HCW2.out _ (by first | exact Below.refl _ _ | exact (Below.refl _ _).drew)).mono ?_; rintro e3 w3 ⟨rfl, z0, z1, HB3⟩))
        have HW3 : Hid (Below wr.heap.size wr w3) := HB1.out.trans (HB3.out.mono HB1.out.size)
        have HBX3 : Hid (w3.heap[wr.heap.size]? = _) := (HB3.out.block _ kl).trans HBX.out
        have hpw3 : p < w3.heap.size := Nat.lt_of_lt_of_le hp HW3.out.size
        have hbl3 : wr.heap.size < w3.heap.size := Nat.lt_of_lt_of_le kl HB3.out.size
        have HCX : Hid (∀ W, Below w3.heap.size w3 W → Calls Tryz.prog 147 #[.pointer (some ⟨p, 8, none⟩), .int .i64 x, .int .i64 y, .int .i64 2] W fun e w' => e = .returned (.tuple #[]) ∧ w'.cell? ⟨wr.heap.size, 0, none⟩ = some (.int .i64 x) ∧ w'.cell? ⟨wr.heap.size, 1, none⟩ = some (.int .i64 y) ∧ Hid (ArcsAt w' p 8 r (upd (tabP (((a, b), true) :: Q)) a b 2) (.slice af (r.stops.length + 1 : Nat) cf) ∧ (∀ k u, k < 8 ∨ 74 ≤ k → wr.cell? ⟨p, k, none⟩ = some u → w'.cell? ⟨p, k, none⟩ = some u) ∧ (∀ k, k < w3.heap.size → k ≠ p → w'.heap[k]? = w3.heap[k]?) ∧ Below p wr w' ∧ w3.heap.size ≤ w'.heap.size)) := fun W hW => by
          have hWW : Below wr.heap.size wr W := HW3.out.trans (hW.mono HW3.out.size)
          refine (say_any p 8 r (tabP (((a, b), true) :: Q)) af cf r.stops.length x y 2 W hns (HQ.out.arcs.below hWW)).mono ?_
          rintro e w' ⟨h1, h2, h3, h4, h5⟩
          have hbk : w'.heap[wr.heap.size]? = w3.heap[wr.heap.size]? := by
            rw [h4 _ (Nat.lt_of_lt_of_le hbl3 hW.size) (by omega)]; exact hW.block _ hbl3
          have hbk2 : w'.heap[wr.heap.size]? = some (.cells #[.int .i64 x, .int .i64 y] 218 (0, 0)) := hbk.trans HBX3.out
          rw [HX.out, HY.out, sayZ_arc HAB.out.1 HAB.out.2.1 HAB.out.2.2.1] at h2
          refine ⟨h1, cell_of_row w' _ 0 _ _ _ hbk2, cell_of_row w' _ 1 _ _ _ hbk2, h2, fun k u hk hu => h3 k u (by omega) ((hWW.cell (by exact hp)).trans hu), fun k hk hne => ?_, (hWW.mono (Nat.le_of_lt hp)).trans h5, Nat.le_trans hW.size h5.size⟩
          rw [h4 k (Nat.lt_of_lt_of_le hk hW.size) hne]; exact hW.block k hk
        clear HCW2 k0 k1 HBX
        go_wp2_with fail
        go_region_held3 (fun w' => w'.cell? ⟨wr.heap.size, 0, none⟩ = some (.int .i64 x) ∧ w'.cell? ⟨wr.heap.size, 1, none⟩ = some (.int .i64 y)) (go_keep) (first | (go_at_call 147; refine (HCX.out _ (by first | exact Below.refl _ _ | exact (Below.refl _ _).drew)).mono ?_; rintro e4 w4 ⟨rfl, t0, t1, HF4⟩))
        clear HCX z0 z1 t0 t1
        have HLV : Hid (leaveP P = ((a, b), false) :: Q) := by show _ = _; rw [← HLE.out]; rfl
        go_wp2
        go_ret
        have hfin := walk_say (Q := ((a, b), false) :: Q) HQ.out HW3.out HF4.out.1 HF4.out.2.1 HF4.out.2.2.1 HF4.out.2.2.2.1 HF4.out.2.2.2.2 (leave_over a b true Q) (by simp [aboveC]) rfl
        exact ⟨by rw [HLV.out]; rfl, by rw [HLV.out]; exact hfin.1, HK.out.trans hfin.2⟩
end Go.Proofs.YtebinaopncclgabGreatDoor
namespace Go.Proofs.YtebinaopncclgabGreatDoor
open Go.RowKit Go.IntWalk

theorem WalkG.mv {w0 w w' : World} {p : Nat} {r : Rd} {ex : Nat → Option Value} {P : PathT} {vs vf vf2 : Value} (h : WalkG w0 w p r ex P vs vf vf2) (hb : Below w.heap.size w w') : WalkG w0 w' p r ex P vs vf vf2 := by
  obtain ⟨va, g1, g2⟩ := h.above
  have hp := h.arcs.lt
  exact ⟨h.size, h.below.trans (hb.mono (Nat.le_of_lt hp)), (hb.cell (by exact hp)).trans h.c0, (hb.cell (by exact hp)).trans h.c1, (hb.cell (by exact hp)).trans h.c2, (hb.cell (by exact hp)).trans h.c5, (hb.cell (by exact hp)).trans h.c7, h.arcs.below hb, ⟨va, (hb.cell (by exact hp)).trans g1, own_below g2 hb⟩, fun k u h1 h2 => (hb.cell (by exact hp)).trans (h.rest k u h1 h2)⟩
theorem WalkG.area {w0 w : World} {p : Nat} {r : Rd} {ex : Nat → Option Value} {P : PathT} {vs vf vf2 : Value} (h : WalkG w0 w p r ex P vs vf vf2) (hs : StR w0 vs r) (hq : SqR w0 vf (r.stops.length + 1) (siteD r)) : AreaAt w p r (siteD r) vs vf := by
  have hb : Below w0.heap.size w0 w := by rw [h.size]; exact h.below
  exact ⟨h.arcs.lt, h.c0, h.c1, h.c2, h.c5, h.c7, hs.below hb, hq.below hb⟩
theorem KeptP.of_below {a b : World} {p : Nat} (h : Below a.heap.size a b) : KeptP a b p := ⟨h.size, fun _ _ k h1 _ _ => h.block k h1⟩
theorem KeptP.of_kept {a b : World} {p : Nat} (h : KeptB a b p) : KeptP a b p := ⟨h.1, fun _ _ k h1 h2 _ => h.2 k h1 h2⟩
theorem said_zero {n : Nat} {P : PathT} {x y : Int} : saidZ n (tabP P) x y = 0 ↔ (0 ≤ x ∧ x ≤ (n : Int) ∧ 0 ≤ y ∧ y ≤ (n : Int) ∧ x ≠ y) ∧ tabP P x.toNat y.toNat = 0 := by
  unfold saidZ
  by_cases h : isArcP n x y
  · rw [if_pos h]
    obtain ⟨⟨h1, h2⟩, ⟨h3, h4⟩, h5⟩ := h
    exact ⟨fun h => ⟨⟨h1, by omega, h3, by omega, h5⟩, h⟩, fun h => h.2⟩
  · rw [if_neg h]
    constructor
    · intro h1; omega
    · rintro ⟨⟨h1, h2, h3, h4, h5⟩, _⟩
      exact absurd ⟨⟨h1, by omega⟩, ⟨h3, by omega⟩, h5⟩ h
theorem tab_diag {n : Nat} {P : PathT} (h : PathOk n P) (a : Nat) : tabP P a a ≠ 1 := fun h1 => by
  have := tab_mem h (tab_forced h h1)
  exact this.2.2.2 rfl

set_option maxRecDepth 100000 in
set_option maxHeartbeats 4000000 in
theorem step_any (w0 w : World) (p : Nat) (r : Rd) (cl : Option Int) (P : PathT) (v vs vf : Value) (af : Option Addr) (cf : Nat) (nd : NodeT) (hok : RdOk r) (hP : PathOk r.stops.length P) (hlP : P.length ≤ 1000) (hnl : nd.2.length ≤ 20) (hnb : ∀ z ∈ nd.2, -100000000 ≤ z ∧ z ≤ 100000000) (hbr : nd.1 = 1 → nd.2.length = 2) (hr : ListR w v nd.2)
    (hw : WalkAt w0 w p r cl P vs vf (.slice af (r.stops.length + 1 : Nat) cf)) (hs : StR w0 vs r) (hq : SqR w0 vf (r.stops.length + 1) (siteD r)) (hq2 : SqR w0 (.slice af (r.stops.length + 1 : Nat) cf) (r.stops.length + 1) (siteD r)) :
    Calls Tryz.prog 153 #[.pointer (some ⟨p, 0, none⟩), .agg #[.int .i64 nd.1, v]] w fun e w' => (stepW (insOf r (siteD r)) cl P nd = none → e = .returned (.bool false) ∧ Below p w0 w') ∧ (∀ P', stepW (insOf r (siteD r)) cl P nd = some P' → e = .returned (.bool true) ∧ WalkAt w0 w' p r cl P' vs vf (.slice af (r.stops.length + 1 : Nat) cf) ∧ KeptP w w' p) := by
  obtain ⟨k, zs⟩ := nd
  dsimp only at hnl hnb hbr hr ⊢
  have hp := hw.arcs.lt
  have HWB := hid hw.below
  by_cases hk : k = 1
  · subst hk
    have h2 := hbr rfl
    obtain ⟨z0, z1, rfl⟩ : ∃ z0 z1, zs = [z0, z1] := by
      match zs, h2 with
      | [a, b], _ => exact ⟨a, b, rfl⟩
    by_cases hc : saidZ r.stops.length (tabP P) z0 z1 = 0
    · have hz := said_zero.1 hc
      have HST : Hid (stepW (insOf r (siteD r)) cl P (1, [z0, z1]) = some (((z0.toNat, z1.toNat), true) :: P)) := by
        show _ = _
        unfold stepW
        rw [if_pos rfl, if_pos ⟨⟨hz.1.1, hz.1.2.1, hz.1.2.2.1, hz.1.2.2.2.1, hz.1.2.2.2.2⟩, hz.2⟩]; rfl
      have HE : Hid (∀ W, Below w.heap.size w W → Calls Tryz.prog 89 #[.pointer (some ⟨p, 8, none⟩), v] W fun e w' => e = .returned (.bool true) ∧ WalkAt w0 w' p r cl (((z0.toNat, z1.toNat), true) :: P) vs vf (.slice af (r.stops.length + 1 : Nat) cf) ∧ KeptP W w' p) := fun W hW => by
        refine enter_yes w0 W p r (exW cl) P v vs vf af cf z0.toNat z1.toNat hok ?_ (hw.mv hW) hlP (by omega) (by omega) (by omega) hz.2
        rw [Int.toNat_of_nonneg hz.1.1, Int.toNat_of_nonneg hz.1.2.2.1]
        exact hr.below hW
      obtain ⟨ao, c, rfl, _⟩ := hr
      obtain ⟨W, hW⟩ : ∃ W, W = w.alloc (.cells #[.int .i64 1, .slice ao 2 c] 76) := ⟨_, rfl⟩
      have HBW : Hid (Below w.heap.size w W) := by rw [hW]; exact below1 w _
      have hbx : W.heap[w.heap.size]? = some (.cells #[.int .i64 1, .slice ao 2 c] 76 (0, 0)) := by rw [hW]; exact heap_alloc_new w _
      have hbl : w.heap.size < W.heap.size := (Array.getElem?_eq_some_iff.1 hbx).1
      have HC : Hid (∀ W', Below W.heap.size W W' → Calls Tryz.prog 89 #[.pointer (some ⟨p, 8, none⟩), .slice ao 2 c] W' fun e w' => e = .returned (.bool true) ∧ w'.cell? ⟨w.heap.size, 1, none⟩ = some (.slice ao 2 c) ∧ Hid (WalkAt w0 w' p r cl (((z0.toNat, z1.toNat), true) :: P) vs vf (.slice af (r.stops.length + 1 : Nat) cf) ∧ KeptP w w' p)) := fun W' hW' => by
        have hWW : Below w.heap.size w W' := HBW.out.trans (hW'.mono HBW.out.size)
        refine (HE.out W' hWW).mono ?_
        rintro e w' ⟨h1, h2, h3⟩
        have hwW := hw.mv hWW
        obtain ⟨va, g1, g2⟩ := hw.above
        have g1' := (hWW.cell (by exact hp)).trans g1
        have hne : va.ownBlock ≠ some w.heap.size := fun h => by have := (g2.lt _ h).2; omega
        have hblk : w'.heap[w.heap.size]? = some (.cells #[.int .i64 1, .slice ao 2 c] 76 (0, 0)) := by
          rw [h3.2 va g1' w.heap.size (Nat.lt_of_lt_of_le hbl hW'.size) (by omega) hne, hW'.block _ hbl]; exact hbx
        refine ⟨h1, cell_of_row w' _ 1 _ _ _ hblk, h2, Nat.le_trans hWW.size h3.1, fun va' hva' q hq1 hq2 hq3 => ?_⟩
        rw [g1] at hva'
        cases hva'
        rw [h3.2 va g1' q (Nat.lt_of_lt_of_le hq1 hWW.size) hq2 hq3]; exact hWW.block q hq1
      have y1 : W.cell? ⟨w.heap.size, 1, none⟩ = some (.slice ao 2 c) := cell_of_row W _ 1 _ _ _ hbx
      have y0 : W.cell? ⟨w.heap.size, 0, none⟩ = some (.int .i64 1) := cell_of_row W _ 0 _ _ _ hbx
      have HWQ := hid hW
      clear hw hs hq hq2 hc hz hbx hW HE
      change Calls Tryz.prog 153 #[.pointer (some ⟨p, 0, none⟩), .agg #[.int .i64 1, .slice ao 2 c]] w _
      go_enter Tryz.func153, Tryz.ntmps153
      go_wp2_with fail
      rw [← HWQ.out]
      go_region_held3 (fun w' => w'.cell? ⟨w.heap.size, 1, none⟩ = some (.slice ao 2 c)) (go_keep) (first | (go_at_call 89; refine (HC.out _ (by first | exact Below.refl _ _ | exact (Below.refl _ _).drew)).mono ?_; rintro e3 w3 ⟨rfl, x1, HF⟩))
      go_wp2
      go_ret
      exact ⟨fun h => (by rw [HST.out] at h; cases h), fun P' h => (by rw [HST.out] at h; cases h; exact ⟨rfl, HF.out⟩)⟩
    · have HST : Hid (stepW (insOf r (siteD r)) cl P (1, [z0, z1]) = none) := by
        show _ = _
        unfold stepW
        rw [if_pos rfl, if_neg]
        rintro ⟨⟨h1, h2, h3, h4, h5⟩, h6⟩
        exact hc (said_zero.2 ⟨⟨h1, h2, h3, h4, h5⟩, h6⟩)
      have HE : Hid (∀ W, Below w.heap.size w W → Calls Tryz.prog 89 #[.pointer (some ⟨p, 8, none⟩), v] W fun e w' => e = .returned (.bool false) ∧ Below W.heap.size W w') := fun W hW => enter_no w0 W p r (exW cl) P v vs vf af cf [z0, z1] hok (hr.below hW) (hw.mv hW) (fun h => hc h.2)
      obtain ⟨ao, c, rfl, _⟩ := hr
      obtain ⟨W, hW⟩ : ∃ W, W = w.alloc (.cells #[.int .i64 1, .slice ao 2 c] 76) := ⟨_, rfl⟩
      have HBW : Hid (Below w.heap.size w W) := by rw [hW]; exact below1 w _
      have hbx : W.heap[w.heap.size]? = some (.cells #[.int .i64 1, .slice ao 2 c] 76 (0, 0)) := by rw [hW]; exact heap_alloc_new w _
      have hbl : w.heap.size < W.heap.size := (Array.getElem?_eq_some_iff.1 hbx).1
      have y1 : W.cell? ⟨w.heap.size, 1, none⟩ = some (.slice ao 2 c) := cell_of_row W _ 1 _ _ _ hbx
      have y0 : W.cell? ⟨w.heap.size, 0, none⟩ = some (.int .i64 1) := cell_of_row W _ 0 _ _ _ hbx
      have HC : Hid (∀ W', Below W.heap.size W W' → Calls Tryz.prog 89 #[.pointer (some ⟨p, 8, none⟩), .slice ao 2 c] W' fun e w' => e = .returned (.bool false) ∧ w'.cell? ⟨w.heap.size, 1, none⟩ = some (.slice ao 2 c) ∧ Hid (Below p w0 w')) := fun W' hW' => by
        refine (HE.out W' (HBW.out.trans (hW'.mono HBW.out.size))).mono ?_
        rintro e w' ⟨h1, h2⟩
        have h3 : Below W.heap.size W w' := hW'.trans (h2.mono hW'.size)
        exact ⟨h1, (h3.cell (by exact hbl)).trans y1, HWB.out.trans ((HBW.out.trans (h3.mono HBW.out.size)).mono (Nat.le_of_lt hp))⟩
      have HWQ := hid hW
      clear hw hs hq hq2 hc hbx hW HE
      change Calls Tryz.prog 153 #[.pointer (some ⟨p, 0, none⟩), .agg #[.int .i64 1, .slice ao 2 c]] w _
      go_enter Tryz.func153, Tryz.ntmps153
      go_wp2_with fail
      rw [← HWQ.out]
      go_region_held3 (fun w' => w'.cell? ⟨w.heap.size, 1, none⟩ = some (.slice ao 2 c)) (go_keep) (first | (go_at_call 89; refine (HC.out _ (by first | exact Below.refl _ _ | exact (Below.refl _ _).drew)).mono ?_; rintro e3 w3 ⟨rfl, x1, HF⟩))
      go_wp2
      go_ret
      exact ⟨fun _ => ⟨rfl, by first | exact HF.out | exact HF.out.drew⟩, fun P' h => (by rw [HST.out] at h; cases h)⟩
  · have e1 : (k == 1) = false := by simpa using hk
    have HLF : Hid (∀ W, Below w.heap.size w W → Calls Tryz.prog 201 #[.pointer (some ⟨p, 0, none⟩), .agg #[.int .i64 k, v]] W fun e w' => e = .returned (.bool (@decide (HoldZ (insOf r (siteD r)) cl (tabP P) (k, zs)) (Classical.propDecidable _))) ∧ Below W.heap.size W w') := fun W hW => by
      have hwW := hw.mv hW
      have hb0 : Below w0.heap.size w0 W := by rw [hwW.size]; exact hwW.below
      exact leafHolds_any p r (tabP P) v vs vf _ (k, zs) cl W hok hnl hnb (hr.below hW) (tab_diag hP) (hwW.area hs hq) hwW.arcs (hq2.below hb0) hwW.c75 hwW.c76
    have HLV : Hid (∀ W, Below w.heap.size w W → Calls Tryz.prog 90 #[.pointer (some ⟨p, 8, none⟩)] W fun e w' => e = .returned (.bool (!(leaveP P).isEmpty)) ∧ WalkAt w0 w' p r cl (leaveP P) vs vf (.slice af (r.stops.length + 1 : Nat) cf) ∧ KeptB W w' p) := fun W hW => leave_any w0 W p r (exW cl) P vs vf af cf hok hP hlP (hw.mv hW)
    by_cases hh : HoldZ (insOf r (siteD r)) cl (tabP P) (k, zs)
    · have HST : Hid (stepW (insOf r (siteD r)) cl P (k, zs) = some (leaveP P)) := by show _ = _; unfold stepW; rw [if_neg hk, if_pos hh]
      have hd : @decide (HoldZ (insOf r (siteD r)) cl (tabP P) (k, zs)) (Classical.propDecidable _) = true := by simpa using hh
      rw [hd] at HLF
      obtain ⟨ao, c, rfl, _⟩ := hr
      clear hw hs hq hq2 hh hd hk hbr
      go_enter Tryz.func153, Tryz.ntmps153
      go_wp2_with fail
      refine (HLF.out _ (below1 w _)).mono ?_
      rintro e2 w2 ⟨rfl, hb2⟩
      have HB2 : Hid (Below w.heap.size w w2) := (below1 w _).trans (hb2.mono (by simp))
      clear hb2
      go_wp2_with fail
      refine (HLV.out _ HB2.out).mono ?_
      rintro e3 w3 ⟨rfl, hw3, hk3⟩
      generalize (!(leaveP P).isEmpty) = t at *
      have HW3 := hid hw3
      have HK3 : Hid (KeptP w w3 p) := KeptP.of_kept ((KeptB.of_below HB2.out).trans hk3)
      clear hw3 hk3
      go_wp2_with fail
      go_ret
      exact ⟨fun h => (by rw [HST.out] at h; cases h), fun P' h => (by rw [HST.out] at h; cases h; exact ⟨rfl, HW3.out, HK3.out⟩)⟩
    · have HST : Hid (stepW (insOf r (siteD r)) cl P (k, zs) = none) := by show _ = _; unfold stepW; rw [if_neg hk, if_neg hh]
      have hd : @decide (HoldZ (insOf r (siteD r)) cl (tabP P) (k, zs)) (Classical.propDecidable _) = false := by simpa using hh
      rw [hd] at HLF
      obtain ⟨ao, c, rfl, _⟩ := hr
      clear hw hs hq hq2 hh hd hk hbr
      go_enter Tryz.func153, Tryz.ntmps153
      go_wp2_with fail
      refine (HLF.out _ (below1 w _)).mono ?_
      rintro e2 w2 ⟨rfl, hb2⟩
      have HB2 : Hid (Below w.heap.size w w2) := (below1 w _).trans (hb2.mono (by simp))
      clear hb2
      go_wp2_with fail
      go_ret
      exact ⟨fun _ => ⟨rfl, HWB.out.trans (HB2.out.mono (Nat.le_of_lt hp))⟩, fun P' h => (by rw [HST.out] at h; cases h)⟩
end Go.Proofs.YtebinaopncclgabGreatDoor
namespace Go.Proofs.YtebinaopncclgabGreatDoor
open Go.RowKit Go.IntWalk

theorem own_kept {w w' : World} {p B n size B2 n2 : Nat} {e : TypeId} {v va : Value} {xs xs2 : List Value} (h : w.ownsRow B e size v n xs) (hB : p < B) (h74 : w.cell? ⟨p, 74, none⟩ = some va) (ha : w.ownsRow B2 218 2 va n2 xs2) (he : e ≠ 218) (hk : KeptP w w' p) : w'.ownsRow B e size v n xs :=
  own_other h (fun q hq => hk.2 va h74 q (h.lt q hq).2 (by have := (h.lt q hq).1; omega) (fun h2 => by
    rcases own_ne h ha he with h3 | h3
    · rw [h3] at hq; cases hq
    · exact h3 (hq.trans h2.symm)))
theorem NodesR.kept {w0 w w' : World} {p B : Nat} {v vs vf vf2 : Value} {L : List NodeT} {r : Rd} {ex : Nat → Option Value} {P : PathT} (h : NodesR w B v L) (hB : p < B) (hw : WalkG w0 w p r ex P vs vf vf2) (hk : KeptP w w' p) : NodesR w' B v L := by
  obtain ⟨us, h1, h2, h3⟩ := h
  obtain ⟨va, g1, g2⟩ := hw.above
  exact ⟨us, h1, own_kept h2 hB g1 g2 (by decide) hk, fun i hi => own_kept (h3 i hi) hB g1 g2 (by decide) hk⟩
theorem cellsN_at : ∀ (L : List NodeT) (vs : List Value), vs.length = L.length → ∀ i (h : i < L.length), (cellsN L vs)[i * 2]? = some (.int .i64 L[i].1) ∧ (cellsN L vs)[i * 2 + 1]? = some (vs.getD i (.slice none 0 0))
  | [], _, _, i, h => absurd h (by simp)
  | nd :: L, [], hl, _, _ => absurd hl (by simp)
  | nd :: L, v :: vs, hl, i, h => by
    have e : cellsN (nd :: L) (v :: vs) = .int .i64 nd.1 :: v :: cellsN L vs := by simp [cellsN]
    rw [e]
    cases i with
    | zero => exact ⟨rfl, rfl⟩
    | succ i =>
      have := cellsN_at L vs (by simpa using hl) i (by simpa using h)
      have e1 : (i + 1) * 2 = i * 2 + 1 + 1 := by omega
      rw [e1, List.getElem?_cons_succ, List.getElem?_cons_succ, List.getElem?_cons_succ, List.getElem?_cons_succ]
      exact this
theorem NodesR.at {w : World} {B : Nat} {v : Value} {L : List NodeT} (h : NodesR w B v L) {i : Nat} (hi : i < L.length) : ∃ g c ao c', v = .slice (some ⟨g, 0, none⟩) L.length c ∧ B ≤ g ∧ g < w.heap.size ∧ w.cell? ⟨g, i * 2, none⟩ = some (.int .i64 L[i].1) ∧ w.cell? ⟨g, i * 2 + 1, none⟩ = some (.slice ao L[i].2.length c') ∧ ListR w (.slice ao L[i].2.length c') L[i].2 := by
  obtain ⟨us, h1, h2, h3⟩ := h
  obtain ⟨g, cap, cur, rfl, hb, hg, _⟩ := own_shape h2 (by omega)
  obtain ⟨k1, k2⟩ := cellsN_at L us h1 i hi
  obtain ⟨ao, c', hv, _, _⟩ := own_val (h3 i hi)
  have h4 := h3 i hi
  rw [hv] at h4 k2
  exact ⟨g, cap, ao, c', rfl, hb, (Array.getElem?_eq_some_iff.1 hg).1, by rw [h2.cellAt (i * 2) (by omega)]; exact k1, by rw [h2.cellAt (i * 2 + 1) (by omega)]; exact k2, ListR.own h4⟩

theorem splitR_len (c : UInt8) : ∀ l : List UInt8, (splitR c l).length ≤ l.length + 1
  | [] => by simp [splitR]
  | x :: t => by
    have := splitR_len c t
    rw [splitR_cons]
    split
    · simp; omega
    · cases hq : splitR c t with
      | nil => simp
      | cons p ps => rw [hq] at this; simp at *; omega
theorem readT_len (l : List UInt8) : (readT l).1.length ≤ l.length + 1 := by
  have h1 := goT_count (splitR 10 l) 1 []
  have h2 := splitR_len 10 l
  unfold readT
  simp at h1; omega
/- what a tree is to show; what Check tells of a text that has an instance -/
def noneB : List UInt8 := [110, 111, 110, 101]
noncomputable def claimS (r : Rd) (l : List UInt8) : Option Int × Int := if l = noneB then (none, 0) else if (judgeS r (siteD r) l).2.2 ≠ 0 then (none, (judgeS r (siteD r) l).2.2) else (some (judgeS r (siteD r) l).1, 0)
noncomputable def checkS (r : Rd) (l t : List UInt8) : Nat × Int :=
  if (claimS r l).2 ≠ 0 then (0, (claimS r l).2) else if (readT t).2.2 ≠ 0 then ((readT t).2.1, 14)
  else if firstW (insOf r (siteD r)) (claimS r l).1 [] (readT t).1 0 = 0 then (0, 0) else (firstW (insOf r (siteD r)) (claimS r l).1 [] (readT t).1 0, 15)
end Go.Proofs.YtebinaopncclgabGreatDoor
