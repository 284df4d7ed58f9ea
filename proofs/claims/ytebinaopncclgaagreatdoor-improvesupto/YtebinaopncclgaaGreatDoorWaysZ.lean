/- Walks: the ways of any text; squares that are the same. -/
import Derived.Test.YtebinaopncclgaaGreatDoorRefY
namespace Go.Proofs.YtebinaopncclgaaGreatDoor
open Go.RowKit Go.IntWalk

theorem retVI {a b : Value} {c d : Int} (h : a = b) (h' : c = d) : Ending.returned (.tuple #[a, .int .i64 c]) = .returned (.tuple #[b, .int .i64 d]) := by rw [h, h']
/- what Ways tells of a text -/
def WaysLeft (w : World) (x : Rd × Nat × Int) (e : Ending) (w' : World) : Prop :=
  ∃ v, e = .returned (.tuple #[v, .int .i64 x.2.2]) ∧ (x.2.2 ≠ 0 → v = .slice none 0 0) ∧ (x.2.2 = 0 → GridO w' w.heap.size v (x.1.stops.length + 1) (siteD x.1)) ∧ Below w.heap.size w w'
set_option maxRecDepth 100000 in
set_option maxHeartbeats 2000000 in
theorem dways_any (s : ByteArray) (w : World) (hs : s.size ≤ maxLen) : Calls Tryz.prog 29 #[.string s] w (WaysLeft w (parseS s.data.toList)) := by
  have HCP : Hid (∀ W, Calls Tryz.prog 59 #[.string s] W (Parsed W (parseS s.data.toList))) := fun W => parse_any s W hs
  have hok : (parseS s.data.toList).2.2 = 0 → RdOk (parseS s.data.toList).1 := parse_rdok
  generalize parseS s.data.toList = x at *
  obtain ⟨r, nat, er⟩ := x
  by_cases h0 : er = 0
  · subst h0
    have HOK := hid (hok rfl)
    have hns := HOK.out.nstops
    have hnr := HOK.out.nroads
    clear hok hs
    go_enter Tryz.func29, Tryz.ntmps29
    go_wp2_with fail
    refine (HCP.out _).mono ?_
    rintro e1 w1 ⟨vs, vr, rfl, hos, hor, hb1⟩
    have HOS := hid hos
    have HOR := hid hor
    have HB1 := hid hb1
    obtain ⟨aos, caps, hv1, _, _⟩ := own_val hos
    obtain ⟨aor, capr, hv2, _, _⟩ := own_val hor
    subst hv1 hv2
    unfold inst
    clear hos hor hb1
    go_wp2_with fail
    refine (between_own w.heap.size w.heap.size r (.slice aos r.stops.length caps) (.slice aor r.roads.length capr) _ HOK.out (HOS.out.alloc _) (HOR.out.alloc _)).mono ?_
    rintro e2 w2 ⟨v, rfl, hg, hb2⟩
    have HG := hid hg
    have HB2 := hid hb2
    obtain ⟨g, _, rfl, _⟩ := hg
    clear hb2
    go_wp2
    go_ret2
    exact ⟨_, retVI rfl rfl, fun h => absurd rfl h, fun _ => HG.out.base (by have := HB1.out.size; simp; omega), (HB1.out.alloc HB1.out.size _).trans (HB2.out.mono (by have := HB1.out.size; simp; omega))⟩
  · have hne : (er != 0) = true := by simp [h0]
    have HNE := hid h0
    clear hok hs h0
    go_enter Tryz.func29, Tryz.ntmps29
    go_wp2_with fail
    refine (HCP.out _).mono ?_
    rintro e1 w1 ⟨vs, vr, rfl, hos, hor, hb1⟩
    have HB1 := hid hb1
    obtain ⟨aos, caps, hv1, _, _⟩ := own_val hos
    obtain ⟨aor, capr, hv2, _, _⟩ := own_val hor
    subst hv1 hv2
    unfold inst
    clear hos hor hb1
    go_wp2
    go_ret2
    exact ⟨_, retVI rfl rfl, fun _ => rfl, fun h => absurd h HNE.out, by first | exact HB1.out | exact HB1.out.alloc HB1.out.size _⟩

/- a square that is read: n rows of n -/
def SqR (w : World) (v : Value) (n : Nat) (D : Nat → Nat → Int) : Prop :=
  ∃ ao c, v = .slice ao n c ∧ n ≤ 100 ∧ ∀ i, i < n → ∃ g gi ci, ao = some ⟨g, 0, none⟩ ∧ g < w.heap.size ∧ w.cell? ⟨g, i, none⟩ = some (.slice (some ⟨gi, 0, none⟩) n ci) ∧ gi < w.heap.size ∧ ∀ j, j < n → w.cell? ⟨gi, j, none⟩ = some (.int .i64 (D i j))
theorem SqR.below {w w' : World} {v : Value} {n : Nat} {D : Nat → Nat → Int} (h : SqR w v n D) (hb : Below w.heap.size w w') : SqR w' v n D := by
  obtain ⟨ao, c, h1, h2, h3⟩ := h
  refine ⟨ao, c, h1, h2, fun i hi => ?_⟩
  obtain ⟨g, gi, ci, k1, k2, k3, k4, k5⟩ := h3 i hi
  exact ⟨g, gi, ci, k1, Nat.lt_of_lt_of_le k2 hb.size, (hb.cell (by exact k2)).trans k3, Nat.lt_of_lt_of_le k4 hb.size, fun j hj => (hb.cell (by exact k4)).trans (k5 j hj)⟩
theorem GridO.sq {w : World} {B : Nat} {v : Value} {n : Nat} {D : Nat → Nat → Int} (h : GridO w B v n D) (hn : n ≤ 100) : SqR w v n D := by
  obtain ⟨g, rfl, hg, hr⟩ := h.grid
  refine ⟨_, _, rfl, hn, fun i hi => ?_⟩
  obtain ⟨gi, h1, h2, h3⟩ := hr i hi
  exact ⟨g, gi, n, rfl, hg.2, h1, h2.2, h3⟩
theorem GridR.sq {w : World} {B U n : Nat} {v : Value} {D : Nat → Nat → Int} {vs : List Value} (h : GridR w B U v n D vs) (hl : vs.length = n) (hn : n ≤ 100) : SqR w v n D := by
  obtain ⟨ao, c, hv, _, _⟩ := own_val h.own
  rw [hl] at hv
  refine ⟨ao, c, hv, hn, fun i hi => ?_⟩
  obtain ⟨g, c', gi, ci, e, h1, h2, h3, h4⟩ := h.at (i := i) (by omega)
  rw [hl, hv] at e
  cases e
  exact ⟨g, gi, ci, rfl, h1, h2, h3, h4⟩
theorem SqR.nil (w : World) (D : Nat → Nat → Int) : SqR w (.slice none 0 0) 0 D := ⟨none, 0, rfl, by omega, fun i hi => absurd hi (by omega)⟩

set_option maxHeartbeats 1000000 in
theorem sameInts_any (n ca cb : Nat) (aa ab : Option Addr) (D : Nat → Int) (w : World) (hn : n ≤ 1000000) (ha : ∀ j, j < n → ∃ g, aa = some ⟨g, 0, none⟩ ∧ g < w.heap.size ∧ w.cell? ⟨g, j, none⟩ = some (.int .i64 (D j))) (hb : ∀ j, j < n → ∃ g, ab = some ⟨g, 0, none⟩ ∧ g < w.heap.size ∧ w.cell? ⟨g, j, none⟩ = some (.int .i64 (D j))) :
    Calls Tryz.prog 37 #[.slice aa n ca, .slice ab n cb] w fun e w' => e = .returned (.bool true) ∧ Below w.heap.size w w' := by
  have HA := hid ha
  have HB := hid hb
  clear ha hb
  go_enter Tryz.func37, Tryz.ntmps37
  go_wp2_with fail
  go_loopw [5] (fun i wr => ∃ k : Nat, i = .int .i64 k ∧ k ≤ n ∧ Hid (Below w.heap.size w wr)) (fun i _ => n - (intOf i).toNat)
  case atStart => exact ⟨0, rfl, by omega, Below.refl _ _⟩
  case round =>
    obtain ⟨k, rfl, hk, HW⟩ := hrel
    by_cases hlt : k < n
    · obtain ⟨ga, rfl, hga, ca1⟩ := HA.out k hlt
      obtain ⟨gb, rfl, hgb, cb1⟩ := HB.out k hlt
      have x1 : wr.cell? ⟨ga, k, none⟩ = some (.int .i64 (D k)) := (HW.out.cell (by exact hga)).trans ca1
      have x2 : wr.cell? ⟨gb, k, none⟩ = some (.int .i64 (D k)) := (HW.out.cell (by exact hgb)).trans cb1
      generalize D k = d at *
      clear ca1 cb1
      have ik : (0 : Int) ≤ (k : Int) := by omega
      have jk : (k : Int) < (n : Int) := by omega
      go_wp2_with fail
      go_region_held3 (fun w' => w'.cell? ⟨ga, k, none⟩ = some (.int .i64 d) ∧ w'.cell? ⟨gb, k, none⟩ = some (.int .i64 d)) (go_keep) (fail)
      go_wp2
      go_roundw
      case rel => exact ⟨k + 1, by go_num, by omega, HW.out.drew⟩
      case measure => simp [intOf]; omega
    · go_wp2
      go_ret
      exact ⟨rfl, HW.out⟩

set_option maxHeartbeats 1000000 in
theorem sameSquare_any (n : Nat) (va vb : Value) (D : Nat → Nat → Int) (w : World) (ha : SqR w va n D) (hb : SqR w vb n D) :
    Calls Tryz.prog 31 #[va, vb] w fun e w' => e = .returned (.bool true) ∧ Below w.heap.size w w' := by
  have HA := hid ha
  have HB := hid hb
  have hn : n ≤ 100 := by obtain ⟨_, _, _, h, _⟩ := ha; exact h
  obtain ⟨aa, ca, hva, _⟩ := ha
  obtain ⟨ab, cb, hvb, _⟩ := hb
  subst hva hvb
  go_enter Tryz.func31, Tryz.ntmps31
  go_wp2_with fail
  go_loopw [5] (fun i wr => ∃ k : Nat, i = .int .i64 k ∧ k ≤ n ∧ Hid (Below w.heap.size w wr)) (fun i _ => n - (intOf i).toNat)
  case atStart => exact ⟨0, rfl, by omega, Below.refl _ _⟩
  case round =>
    obtain ⟨k, rfl, hk, HW⟩ := hrel
    by_cases hlt : k < n
    · obtain ⟨_, _, e1, _, h1⟩ := HA.out.below HW.out
      obtain ⟨_, _, e2, _, h2⟩ := HB.out.below HW.out
      cases e1
      cases e2
      obtain ⟨ga, gi, ci, rfl, hga, x1, hgi, y1⟩ := h1 k hlt
      obtain ⟨gb, gj, cj, rfl, hgb, x2, hgj, y2⟩ := h2 k hlt
      have HC : Hid (∀ W, Below wr.heap.size wr W → Calls Tryz.prog 37 #[.slice (some ⟨gi, 0, none⟩) n ci, .slice (some ⟨gj, 0, none⟩) n cj] W fun e w' => e = .returned (.bool true) ∧ Below W.heap.size W w') :=
        fun W hW => sameInts_any n ci cj _ _ (D k) W (by omega) (fun j hj => ⟨gi, rfl, Nat.lt_of_lt_of_le hgi hW.size, (hW.cell (by exact hgi)).trans (y1 j hj)⟩) (fun j hj => ⟨gj, rfl, Nat.lt_of_lt_of_le hgj hW.size, (hW.cell (by exact hgj)).trans (y2 j hj)⟩)
      have ik : (0 : Int) ≤ (k : Int) := by omega
      have jk : (k : Int) < (n : Int) := by omega
      clear h1 h2 y1 y2
      go_wp2_with fail
      go_region_held3 (fun w' => w'.cell? ⟨ga, k, none⟩ = some (.slice (some ⟨gi, 0, none⟩) n ci) ∧ w'.cell? ⟨gb, k, none⟩ = some (.slice (some ⟨gj, 0, none⟩) n cj)) (go_keep)
        (first
          | (go_at_call 37; refine (HC.out _ ((Below.refl _ _).drew)).mono ?_; rintro e2 w2 ⟨rfl, hb2⟩; have hw2 : Below wr.heap.size wr w2 := ⟨hb2.os, hb2.tape, hb2.output, hb2.size, hb2.block⟩; have m0 := (hw2.cell (p := ⟨ga, k, none⟩) (by exact hga)).trans x1; have m1 := (hw2.cell (p := ⟨gb, k, none⟩) (by exact hgb)).trans x2; have HW2 := hide hw2; clear hw2 hb2))
      clear m0 m1
      go_wp2
      go_roundw
      case rel => exact ⟨k + 1, by go_num, by omega, HW.out.trans (HW2.out.mono HW.out.size)⟩
      case measure => simp [intOf]; omega
    · go_wp2
      go_ret
      exact ⟨rfl, HW.out⟩
end Go.Proofs.YtebinaopncclgaaGreatDoor
