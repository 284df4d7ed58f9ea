/- Walks: Judge of any text and any plan. -/
import Derived.Test.YtebinaopncclgaaGreatDoorWaysZ
import Derived.Test.YtebinaopncclgaaGreatDoorJArea
namespace Go.Proofs.YtebinaopncclgaaGreatDoor
open Go.RowKit Go.IntWalk

def ground (r : Rd) (vs vr vw : Value) : Array Value := #[.int .i64 r.vans, .int .i64 r.load, .int .i64 r.close, .int .i64 r.nodes, .int .i64 r.home, vs, vr, vw]
def GroundLeft (w : World) (x : Rd × Nat × Int) (e : Ending) (w' : World) : Prop :=
  ∃ vs vr vw, e = .returned (.tuple #[.agg (ground x.1 vs vr vw), .int .i64 x.2.2]) ∧ w'.ownsRow w.heap.size 50 5 vs x.1.stops.length (ints x.1.stops.flatten) ∧ w'.ownsRow w.heap.size 52 3 vr x.1.roads.length (ints x.1.roads.flatten) ∧ (x.2.2 ≠ 0 → vw = .slice none 0 0) ∧ (x.2.2 = 0 → ∃ us, us.length = x.1.stops.length + 1 ∧ GridR w' w.heap.size w'.heap.size vw (x.1.stops.length + 1) (siteD x.1) us) ∧ Below w.heap.size w w'
theorem parse_zero {l : List UInt8} (h : (parseS l).2.2 ≠ 0) : (parseS l).1 = Rd0 := by
  unfold parseS at h ⊢
  split
  · rfl
  · rename_i h1
    rw [if_neg h1] at h
    split
    · rename_i h2
      rw [if_pos h2] at h
      split
      · rename_i h3; rw [if_pos h3] at h; exact absurd rfl h
      · rfl
    · rfl
def zero8 : Array Value := #[.int .i64 0, .int .i64 0, .int .i64 0, .int .i64 0, .int .i64 0, .slice none 0 0, .slice none 0 0, .slice none 0 0]
theorem eight {w : World} {b : Nat} {t : TypeId} (h : w.heap[b]? = some (.cells zero8 t (0, 0))) :
    w.cell? ⟨b, 0, none⟩ = some (.int .i64 0) ∧ w.cell? ⟨b, 1, none⟩ = some (.int .i64 0) ∧ w.cell? ⟨b, 2, none⟩ = some (.int .i64 0) ∧ w.cell? ⟨b, 3, none⟩ = some (.int .i64 0) ∧ w.cell? ⟨b, 4, none⟩ = some (.int .i64 0) ∧ w.cell? ⟨b, 5, none⟩ = some (.slice none 0 0) ∧ w.cell? ⟨b, 6, none⟩ = some (.slice none 0 0) ∧ w.cell? ⟨b, 7, none⟩ = some (.slice none 0 0) ∧ ∀ o, w.frozen? ⟨b, o, none⟩ = false := by
  refine ⟨?_, ?_, ?_, ?_, ?_, ?_, ?_, ?_, fun o => frozen_of_row w b o _ _ h⟩ <;> (rw [cell_of_row w b _ _ _ _ h]; rfl)
theorem put8_keep {w : World} {b : Nat} {cs : Array Value} {t : TypeId} (hb : w.heap[b]? = some (.cells cs t (0, 0))) (u0 u1 u2 u3 u4 u5 u6 u7 : Value) :
    Keep [t] w ((((((((w.setCell ⟨b, 0, none⟩ u0).setCell ⟨b, 1, none⟩ u1).setCell ⟨b, 2, none⟩ u2).setCell ⟨b, 3, none⟩ u3).setCell ⟨b, 4, none⟩ u4).setCell ⟨b, 5, none⟩ u5).setCell ⟨b, 6, none⟩ u6).setCell ⟨b, 7, none⟩ u7) := by
  intro k cur t' z hk ht
  have hne : k ≠ b := fun e => by rw [e, hb] at hk; cases hk; simp at ht
  rw [Below.heap_setCell _ _ _ _ hne, Below.heap_setCell _ _ _ _ hne, Below.heap_setCell _ _ _ _ hne, Below.heap_setCell _ _ _ _ hne, Below.heap_setCell _ _ _ _ hne, Below.heap_setCell _ _ _ _ hne, Below.heap_setCell _ _ _ _ hne, Below.heap_setCell _ _ _ _ hne]; exact hk
theorem below_put8 {B b : Nat} {w0 w : World} (h : Below B w0 w) (hB : B ≤ b) (u0 u1 u2 u3 u4 u5 u6 u7 : Value) : Below B w0 ((((((((w.setCell ⟨b, 0, none⟩ u0).setCell ⟨b, 1, none⟩ u1).setCell ⟨b, 2, none⟩ u2).setCell ⟨b, 3, none⟩ u3).setCell ⟨b, 4, none⟩ u4).setCell ⟨b, 5, none⟩ u5).setCell ⟨b, 6, none⟩ u6).setCell ⟨b, 7, none⟩ u7) :=
  (((((((h.setCell hB u0).setCell hB u1).setCell hB u2).setCell hB u3).setCell hB u4).setCell hB u5).setCell hB u6).setCell hB u7
theorem own_put8 {w : World} {b : Nat} {cs : Array Value} {t : TypeId} (hb : w.heap[b]? = some (.cells cs t (0, 0))) {B n size : Nat} {e : TypeId} {v : Value} {xs : List Value} (h : w.ownsRow B e size v n xs) (he : e ≠ t) {u0 u1 u2 u3 u4 u5 u6 u7 : Value} :
    ((((((((w.setCell ⟨b, 0, none⟩ u0).setCell ⟨b, 1, none⟩ u1).setCell ⟨b, 2, none⟩ u2).setCell ⟨b, 3, none⟩ u3).setCell ⟨b, 4, none⟩ u4).setCell ⟨b, 5, none⟩ u5).setCell ⟨b, 6, none⟩ u6).setCell ⟨b, 7, none⟩ u7).ownsRow B e size v n xs := own_keep h (put8_keep hb _ _ _ _ _ _ _ _) (by simpa using he)
theorem grid_put8 {w : World} {b : Nat} {cs : Array Value} (hb : w.heap[b]? = some (.cells cs 70 (0, 0))) {B U n : Nat} {v : Value} {D : Nat → Nat → Int} {vs : List Value} (h : GridR w B U v n D vs) {u0 u1 u2 u3 u4 u5 u6 u7 : Value} :
    GridR ((((((((w.setCell ⟨b, 0, none⟩ u0).setCell ⟨b, 1, none⟩ u1).setCell ⟨b, 2, none⟩ u2).setCell ⟨b, 3, none⟩ u3).setCell ⟨b, 4, none⟩ u4).setCell ⟨b, 5, none⟩ u5).setCell ⟨b, 6, none⟩ u6).setCell ⟨b, 7, none⟩ u7) B ((((((((w.setCell ⟨b, 0, none⟩ u0).setCell ⟨b, 1, none⟩ u1).setCell ⟨b, 2, none⟩ u2).setCell ⟨b, 3, none⟩ u3).setCell ⟨b, 4, none⟩ u4).setCell ⟨b, 5, none⟩ u5).setCell ⟨b, 6, none⟩ u6).setCell ⟨b, 7, none⟩ u7).heap.size v n D vs := by
  have hk := put8_keep hb u0 u1 u2 u3 u4 u5 u6 u7
  refine ⟨own_keep h.own hk (by decide), fun i hi => ?_⟩
  obtain ⟨gi, ci, cur, k1, k2, k3, k4⟩ := h.row i hi
  have k5 := hk _ _ _ _ k3 (by decide)
  exact ⟨gi, ci, cur, k1, ⟨k2.1, (Array.getElem?_eq_some_iff.1 k5).1⟩, k5, k4⟩

set_option maxRecDepth 100000 in
set_option maxHeartbeats 2000000 in
theorem on_any (s : ByteArray) (w : World) (hs : s.size ≤ maxLen) : Calls Tryz.prog 30 #[.string s] w (GroundLeft w (parseS s.data.toList)) := by
  have HCP : Hid (∀ W, Calls Tryz.prog 22 #[.string s] W (Parsed W (parseS s.data.toList))) := fun W => rparse_any s W hs
  have hok : (parseS s.data.toList).2.2 = 0 → RdOk (parseS s.data.toList).1 := parse_rdok
  have hzz : (parseS s.data.toList).2.2 ≠ 0 → (parseS s.data.toList).1 = Rd0 := parse_zero
  generalize parseS s.data.toList = x at *
  obtain ⟨r, nat, er⟩ := x
  by_cases h0 : er = 0
  · subst h0
    have HOK := hid (hok rfl)
    have hns := HOK.out.nstops
    have hnr := HOK.out.nroads
    clear hok hs hzz
    go_enter Tryz.func30, Tryz.ntmps30
    go_wp2_with fail
    refine (HCP.out _).mono ?_
    rintro e1 w1 ⟨vs, vr, rfl, hos, hor, hb1⟩
    unfold inst
    obtain ⟨aos, caps, hv1, _, _⟩ := own_val hos
    obtain ⟨aor, capr, hv2, _, _⟩ := own_val hor
    subst hv1 hv2
    have hz1 : w1.heap[w.heap.size]? = some (.cells zero8 70 (0, 0)) := by rw [hb1.block _ (by simp)]; exact heap_alloc_new w _
    have HB1 : Hid (Below w.heap.size w w1) := (below1 w _).trans (hb1.mono (by simp))
    have HS1 := hid (own_base hos (show w.heap.size ≤ _ by simp))
    have HR1 := hid (own_base hor (show w.heap.size ≤ _ by simp))
    have HZ1 := hid hz1
    have hzl : w.heap.size < w1.heap.size := (Array.getElem?_eq_some_iff.1 hz1).1
    clear hos hor hb1 hz1 HCP
    go_wp2_with fail
    refine (rways_any w.heap.size w.heap.size r (.slice aos r.stops.length caps) (.slice aor r.roads.length capr) _ HOK.out (HS1.out.alloc _) (HR1.out.alloc _)).mono ?_
    rintro e2 w2 ⟨v2, us, rfl, hul, hg2, hb2⟩
    have hb12 : Below w1.heap.size w1 w2 := (below1 w1 _).trans (hb2.mono (by simp))
    have hx2 : w2.heap[w1.heap.size]? = some (.cells #[.int .i64 r.vans, .int .i64 r.load, .int .i64 r.close, .int .i64 r.nodes, .int .i64 r.home, .slice aos r.stops.length caps, .slice aor r.roads.length capr] 36 (0, 0)) := by
      rw [hb2.block _ (by simp)]; exact heap_alloc_new w1 _
    have hz2 : w2.heap[w.heap.size]? = _ := (hb12.block _ hzl).trans HZ1.out
    obtain ⟨q0, q1, q2, q3, q4, q5, q6, _⟩ := seven hx2
    obtain ⟨b0, b1, b2, b3, b4, b5, b6, b7, bf⟩ := eight hz2
    have hxl : w1.heap.size < w2.heap.size := (Array.getElem?_eq_some_iff.1 hx2).1
    have hzl2 : w.heap.size < w2.heap.size := by omega
    obtain ⟨avw, cvw, hvw, _, _⟩ := own_val hg2.own
    rw [hul] at hvw
    subst hvw
    have HS2 := hid (own_below HS1.out hb12)
    have HR2 := hid (own_below HR1.out hb12)
    have HG2 := hid (hg2.base (show w.heap.size ≤ _ by simp; omega))
    have HB2 : Hid (Below w.heap.size w w2) := HB1.out.trans (hb12.mono HB1.out.size)
    have HZ2 := hid hz2
    clear hg2 hb2 hb12 hx2 hz2 HS1 HR1 HB1 HZ1
    go_wp2
    refine bodyPost_ret (v := .tuple #[.agg (ground r (.slice aos r.stops.length caps) (.slice aor r.roads.length capr) (.slice avw (r.stops.length + 1) cvw)), .int .i64 0]) (by simp [results, Tryz.results30, go_sem, ground, b0, b1, b2, b3, b4, b5, b6, b7]) rfl ?_
    refine ⟨_, _, _, rfl, own_put8 HZ2.out HS2.out (by decide), own_put8 HZ2.out HR2.out (by decide), fun h => absurd rfl h, fun _ => ⟨us, hul, ?_⟩, below_put8 HB2.out (Nat.le_refl _) _ _ _ _ _ _ _ _⟩
    exact grid_put8 HZ2.out HG2.out
  · have hne : (er != 0) = true := by simp [h0]
    have HNE := hid h0
    have hr0 : r = Rd0 := hzz h0
    subst hr0
    clear hok hs h0 hzz
    go_enter Tryz.func30, Tryz.ntmps30
    go_wp2_with fail
    refine (HCP.out _).mono ?_
    rintro e1 w1 ⟨vs, vr, rfl, hos, hor, hb1⟩
    have hz1 : w1.heap[w.heap.size]? = some (.cells zero8 70 (0, 0)) := by rw [hb1.block _ (by simp)]; exact heap_alloc_new w _
    obtain ⟨b0, b1, b2, b3, b4, b5, b6, b7, bf⟩ := eight hz1
    have hzl : w.heap.size < w1.heap.size := (Array.getElem?_eq_some_iff.1 hz1).1
    have HB1 : Hid (Below w.heap.size w w1) := (below1 w _).trans (hb1.mono (by simp))
    unfold inst
    obtain ⟨aos, caps, hv1, _, _⟩ := own_val hos
    obtain ⟨aor, capr, hv2, _, _⟩ := own_val hor
    subst hv1 hv2
    clear hos hor hb1 hz1 HCP
    go_wp2
    refine bodyPost_ret (v := .tuple #[.agg zero8, .int .i64 er]) (by simp [results, Tryz.results30, go_sem, zero8, b0, b1, b2, b3, b4, b5, b6, b7, hzl]) rfl ?_
    refine ⟨.slice none 0 0, .slice none 0 0, .slice none 0 0, rfl, World.ownsRow_nil _ _ _ _, World.ownsRow_nil _ _ _ _, fun _ => rfl, fun h => absurd h HNE.out, ?_⟩
    have h8 := below_put8 HB1.out (Nat.le_refl _) (.int .i64 0) (.int .i64 0) (.int .i64 0) (.int .i64 0) (.int .i64 0) (.slice none 0 0) (.slice none 0 0) (.slice none 0 0)
    exact h8.alloc h8.size _
end Go.Proofs.YtebinaopncclgaaGreatDoor
namespace Go.Proofs.YtebinaopncclgaaGreatDoor
open Go.RowKit Go.IntWalk

theorem GridO.keep {T : List TypeId} {w w' : World} {B : Nat} {v : Value} {n : Nat} {D : Nat → Nat → Int} (h : GridO w B v n D) (hk : Keep T w w') (h1 : 3 ∉ T) (h2 : 53 ∉ T) : GridO w' B v n D := by
  obtain ⟨g, G, e1, e2, e3, e4⟩ := h
  refine ⟨g, G, e1, own_keep e2 hk h2, fun i hi => ?_, e4⟩
  obtain ⟨k1, ci, k2, k3⟩ := e3 i hi
  exact ⟨k1, ci, hk _ _ _ _ k2 h1, k3⟩
theorem StR.own {w : World} {B : Nat} {v : Value} {r : Rd} (h : w.ownsRow B 50 5 v r.stops.length (ints r.stops.flatten)) (hs : ∀ s ∈ r.stops, s.length = 5) : StR w v r := by
  obtain ⟨ao, c, hv, h1, h2⟩ := own_val h
  refine ⟨ao, c, hv, fun i hi => ?_⟩
  cases ao with
  | none => exact absurd (h2 rfl) (by omega)
  | some a =>
    subst hv
    obtain ⟨g, rfl, _, hg⟩ := h1 a rfl
    refine ⟨g, rfl, hg, fun j z hj hz => ?_⟩
    have hij : i * 5 + j < r.stops.length * 5 := by omega
    rw [h.cellAt (i * 5 + j) hij]
    exact flat_ints hs hi hj hz
def OpenLeft (w : World) (x : Rd × Nat × Int) (e : Ending) (w' : World) : Prop :=
  ∃ vs vr vw, e = .returned (.tuple #[.agg (ground x.1 vs vr vw), .int .i64 x.2.2]) ∧ w'.ownsRow w.heap.size 50 5 vs x.1.stops.length (ints x.1.stops.flatten) ∧ (∃ ao n c, vr = .slice ao n c) ∧ (x.2.2 ≠ 0 → vw = .slice none 0 0) ∧ (x.2.2 = 0 → GridO w' w.heap.size vw (x.1.stops.length + 1) (siteD x.1)) ∧ Below w.heap.size w w'

set_option maxRecDepth 100000 in
set_option maxHeartbeats 2000000 in
theorem of_any (B B' : Nat) (r : Rd) (vs vr : Value) (w : World) (hn : RdOk r) (hs : w.ownsRow B 50 5 vs r.stops.length (ints r.stops.flatten)) (hr : w.ownsRow B' 52 3 vr r.roads.length (ints r.roads.flatten)) :
    Calls Tryz.prog 99 #[inst r vs vr] w fun e w' => ∃ v, e = .returned (.agg (ground r vs vr v)) ∧ GridO w' w.heap.size v (r.stops.length + 1) (siteD r) ∧ Below w.heap.size w w' := by
  have HCB : Hid (∀ W, Below w.heap.size w W → Calls Tryz.prog 67 #[inst r vs vr] W fun e w' => ∃ v, e = .returned v ∧ GridO w' W.heap.size v (r.stops.length + 1) (siteD r) ∧ Below W.heap.size W w') := fun W hW => between_own B B' r vs vr W hn (own_below hs hW) (own_below hr hW)
  have hns := hn.nstops
  have hnr := hn.nroads
  obtain ⟨aos, caps, rfl, _, _⟩ := own_val hs
  obtain ⟨aor, capr, rfl, _, _⟩ := own_val hr
  clear hs hr hn
  unfold inst at *
  go_enter Tryz.func99, Tryz.ntmps99
  go_wp2_with fail
  refine (HCB.out _ (below2 w _ _)).mono ?_
  rintro e1 w1 ⟨v1, rfl, hg1, hb1⟩
  have HW1 : Hid (Below w.heap.size w w1) := (below2 w _ _).trans (hb1.mono (by simp; omega))
  have hx1 : w1.heap[w.heap.size]? = some (.cells #[.int .i64 r.vans, .int .i64 r.load, .int .i64 r.close, .int .i64 r.nodes, .int .i64 r.home, .slice aos r.stops.length caps, .slice aor r.roads.length capr] 36 (0, 0)) := (hb1.block _ (by simp; omega)).trans (heap_alloc2_first w _ _)
  have hz1 : w1.heap[w.heap.size + 1]? = some (.cells zero8 119 (0, 0)) := (hb1.block _ (by simp)).trans (by
    have h := heap_alloc_new (w.alloc (.cells #[.int .i64 r.vans, .int .i64 r.load, .int .i64 r.close, .int .i64 r.nodes, .int .i64 r.home, .slice aos r.stops.length caps, .slice aor r.roads.length capr] 36)) (.cells zero8 119)
    rw [show (w.alloc (.cells #[.int .i64 r.vans, .int .i64 r.load, .int .i64 r.close, .int .i64 r.nodes, .int .i64 r.home, .slice aos r.stops.length caps, .slice aor r.roads.length capr] 36)).heap.size = w.heap.size + 1 by simp] at h; exact h)
  obtain ⟨q0, q1, q2, q3, q4, q5, q6, _⟩ := seven hx1
  obtain ⟨b0, b1, b2, b3, b4, b5, b6, b7, bf⟩ := eight hz1
  have hxl : w.heap.size < w1.heap.size := (Array.getElem?_eq_some_iff.1 hx1).1
  have hzl2 : w.heap.size + 1 < w1.heap.size := (Array.getElem?_eq_some_iff.1 hz1).1
  have HG1 : Hid (GridO w1 w.heap.size v1 (r.stops.length + 1) (siteD r)) := hg1.base (show w.heap.size ≤ _ by simp; omega)
  obtain ⟨avw, _, rfl, _⟩ := hg1
  have HZ1 := hid hz1
  clear hb1 hx1 hz1 HCB
  go_wp2
  refine bodyPost_ret (v := .agg (ground r (.slice aos r.stops.length caps) (.slice aor r.roads.length capr) (.slice (some ⟨avw, 0, none⟩) (r.stops.length + 1) (r.stops.length + 1)))) (by simp [results, Tryz.results99, go_sem, ground, b0, b1, b2, b3, b4, b5, b6, b7]) rfl ?_
  exact ⟨_, rfl, HG1.out.keep (put8_keep HZ1.out _ _ _ _ _ _ _ _) (by decide) (by decide), below_put8 HW1.out (by omega) _ _ _ _ _ _ _ _⟩

set_option maxRecDepth 100000 in
set_option maxHeartbeats 2000000 in
theorem open_any (s : ByteArray) (w : World) (hs : s.size ≤ maxLen) : Calls Tryz.prog 69 #[.string s] w (OpenLeft w (parseS s.data.toList)) := by
  have HCP : Hid (∀ W, Calls Tryz.prog 59 #[.string s] W (Parsed W (parseS s.data.toList))) := fun W => parse_any s W hs
  have hok : (parseS s.data.toList).2.2 = 0 → RdOk (parseS s.data.toList).1 := parse_rdok
  have hzz : (parseS s.data.toList).2.2 ≠ 0 → (parseS s.data.toList).1 = Rd0 := parse_zero
  generalize parseS s.data.toList = x at *
  obtain ⟨r, nat, er⟩ := x
  by_cases h0 : er = 0
  · subst h0
    have HOK := hid (hok rfl)
    have hns := HOK.out.nstops
    have hnr := HOK.out.nroads
    clear hok hs hzz
    go_enter Tryz.func69, Tryz.ntmps69
    go_wp2_with fail
    refine (HCP.out _).mono ?_
    rintro e1 w1 ⟨vs, vr, rfl, hos, hor, hb1⟩
    have hvs := hos
    unfold inst
    obtain ⟨aos, caps, hv1, _, _⟩ := own_val hos
    obtain ⟨aor, capr, hv2, _, _⟩ := own_val hor
    subst hv1 hv2
    have hz1 : w1.heap[w.heap.size]? = some (.cells zero8 119 (0, 0)) := by rw [hb1.block _ (by simp)]; exact heap_alloc_new w _
    have HB1 : Hid (Below w.heap.size w w1) := (below1 w _).trans (hb1.mono (by simp))
    have HS1 := hid (own_base hos (show w.heap.size ≤ _ by simp))
    have HR1 := hid (own_base hor (show w.heap.size ≤ _ by simp))
    have HZ1 := hid hz1
    have hzl : w.heap.size < w1.heap.size := (Array.getElem?_eq_some_iff.1 hz1).1
    clear hos hor hvs hb1 hz1 HCP
    go_wp2_with fail
    refine (of_any w.heap.size w.heap.size r (.slice aos r.stops.length caps) (.slice aor r.roads.length capr) _ HOK.out (by first | exact HS1.out.alloc _ | exact HS1.out) (by first | exact HR1.out.alloc _ | exact HR1.out)).mono ?_
    rintro e2 w2 ⟨v2, rfl, hg2, hb2⟩
    have hb12 : Below w1.heap.size w1 w2 := by first | exact (below1 w1 _).trans (hb2.mono (by simp)) | exact hb2
    have hz2 : w2.heap[w.heap.size]? = _ := (hb12.block _ hzl).trans HZ1.out
    obtain ⟨b0, b1, b2, b3, b4, b5, b6, b7, bf⟩ := eight hz2
    have hzl2 : w.heap.size < w2.heap.size := Nat.lt_of_lt_of_le hzl hb12.size
    have HG2 : Hid (GridO w2 w.heap.size v2 (r.stops.length + 1) (siteD r)) := hg2.base (by first | exact Nat.le_of_lt hzl | (simp; omega))
    obtain ⟨avw, _, rfl, _⟩ := hg2
    have HS2 := hid (own_below HS1.out hb12)
    have HB2 : Hid (Below w.heap.size w w2) := HB1.out.trans (hb12.mono HB1.out.size)
    have HZ2 := hid hz2
    clear hb2 hb12 hz2 HS1 HR1 HB1 HZ1
    unfold ground
    go_wp2
    refine bodyPost_ret (v := .tuple #[.agg (ground r (.slice aos r.stops.length caps) (.slice aor r.roads.length capr) (.slice (some ⟨avw, 0, none⟩) (r.stops.length + 1) (r.stops.length + 1))), .int .i64 0]) (by simp [results, Tryz.results69, go_sem, ground, b0, b1, b2, b3, b4, b5, b6, b7]) rfl ?_
    refine ⟨_, _, _, rfl, own_put8 HZ2.out HS2.out (by decide), ⟨_, _, _, rfl⟩, fun h => absurd rfl h, fun _ => ?_, below_put8 HB2.out (Nat.le_refl _) _ _ _ _ _ _ _ _⟩
    exact HG2.out.keep (put8_keep HZ2.out _ _ _ _ _ _ _ _) (by decide) (by decide)
  · have hne : (er != 0) = true := by simp [h0]
    have HNE := hid h0
    have hr0 : r = Rd0 := hzz h0
    subst hr0
    clear hok hs h0 hzz
    go_enter Tryz.func69, Tryz.ntmps69
    go_wp2_with fail
    refine (HCP.out _).mono ?_
    rintro e1 w1 ⟨vs, vr, rfl, hos, hor, hb1⟩
    have hz1 : w1.heap[w.heap.size]? = some (.cells zero8 119 (0, 0)) := by rw [hb1.block _ (by simp)]; exact heap_alloc_new w _
    obtain ⟨b0, b1, b2, b3, b4, b5, b6, b7, bf⟩ := eight hz1
    have hzl : w.heap.size < w1.heap.size := (Array.getElem?_eq_some_iff.1 hz1).1
    have HB1 : Hid (Below w.heap.size w w1) := (below1 w _).trans (hb1.mono (by simp))
    unfold inst
    obtain ⟨aos, caps, hv1, _, _⟩ := own_val hos
    obtain ⟨aor, capr, hv2, _, _⟩ := own_val hor
    subst hv1 hv2
    clear hos hor hb1 hz1 HCP
    go_wp2
    refine bodyPost_ret (v := .tuple #[.agg zero8, .int .i64 er]) (by simp [results, Tryz.results69, go_sem, zero8, b0, b1, b2, b3, b4, b5, b6, b7, hzl]) rfl ?_
    refine ⟨.slice none 0 0, .slice none 0 0, .slice none 0 0, rfl, World.ownsRow_nil _ _ _ _, ⟨_, _, _, rfl⟩, fun _ => rfl, fun h => absurd h HNE.out, ?_⟩
    have h8 := below_put8 HB1.out (Nat.le_refl _) (.int .i64 0) (.int .i64 0) (.int .i64 0) (.int .i64 0) (.int .i64 0) (.slice none 0 0) (.slice none 0 0) (.slice none 0 0)
    first | exact h8.alloc h8.size _ | exact h8
end Go.Proofs.YtebinaopncclgaaGreatDoor
namespace Go.Proofs.YtebinaopncclgaaGreatDoor
open Go.RowKit Go.IntWalk

theorem site_range {r : Rd} (h : RdOk r) : ∀ a b, a < r.stops.length + 1 → b < r.stops.length + 1 → -1 ≤ siteD r a b ∧ siteD r a b ≤ 40960000 := by
  intro a b ha hb
  have hhd := headOk_iff.1 h.head
  obtain ⟨N, hN⟩ : ∃ N : Nat, r.nodes = N := ⟨r.nodes.toNat, by omega⟩
  have := (fw_lens12 (rd_lens h hN) (by omega) (Nat.le_refl _)).2 _ _ (siteN_lt h hN ha) (siteN_lt h hN hb)
  unfold siteD wayF; rw [show r.nodes.toNat = N by omega]; exact this
/- what Judge tells of a text and a plan -/
def judgedS (x : Rd × Nat × Int) (l : List UInt8) : Int × Option (List Int) × Int := if x.2.2 ≠ 0 then (0, none, x.2.2) else judgeS x.1 (siteD x.1) l
theorem area_box {w W : World} {r : Rd} {vs vr vw : Value} (h : W = w.alloc (.cells (ground r vs vr vw) 119)) (hs : StR w vs r) (hq : SqR w vw (r.stops.length + 1) (siteD r)) : AreaAt W w.heap.size r (siteD r) vs vw ∧ Below w.heap.size w W := by
  subst h
  have hb := heap_alloc_new w (.cells (ground r vs vr vw) 119)
  have hw := below1 w (.cells (ground r vs vr vw) 119)
  refine ⟨⟨by simp, ?_, ?_, ?_, ?_, ?_, hs.below hw, hq.below hw⟩, hw⟩ <;> (rw [cell_of_row _ _ _ _ _ _ hb]; rfl)

set_option maxRecDepth 100000 in
set_option maxHeartbeats 2000000 in
theorem djudge_any (s t : ByteArray) (w : World) (hs : s.size ≤ maxLen) (ht : t.size ≤ maxLen) : Calls Tryz.prog 35 #[.string s, .string t] w (JudgeLeft w (parseS s.data.toList).1.stops.length (judgedS (parseS s.data.toList) t.data.toList)) := by
  have HCP : Hid (∀ W, Calls Tryz.prog 69 #[.string s] W (OpenLeft W (parseS s.data.toList))) := fun W => open_any s W hs
  have hok : (parseS s.data.toList).2.2 = 0 → RdOk (parseS s.data.toList).1 := parse_rdok
  generalize parseS s.data.toList = x at *
  obtain ⟨r, nat, er⟩ := x
  by_cases h0 : er = 0
  · subst h0
    have HOK := hid (hok rfl)
    have hns := HOK.out.nstops
    have HAJ : Hid (∀ (W : World) (p : Nat) (vs vf : Value), AreaAt W p r (siteD r) vs vf → Calls Tryz.prog 72 #[.pointer (some ⟨p, 0, none⟩), .string t] W (JudgeLeft W r.stops.length (judgedS (r, nat, 0) t.data.toList))) := fun W p vs vf ha => by
      have h := ajudge_any p r (siteD r) t vs vf W ht HOK.out ha (site_range HOK.out)
      exact h
    generalize judgedS (r, nat, 0) t.data.toList = ans at *
    clear hok hs
    go_enter Tryz.func35, Tryz.ntmps35
    go_wp2_with fail
    refine (HCP.out _).mono ?_
    rintro e1 w1 ⟨vs, vr, vw, rfl, hos, ⟨ar, nr, cr, rfl⟩, _, hgo, hb1⟩
    dsimp only at hgo hos
    have hst := StR.own hos HOK.out.shape.stops
    have hsq : SqR w1 vw (r.stops.length + 1) (siteD r) := (hgo rfl).sq (by omega)
    obtain ⟨aos, caps, hv1, _, _⟩ := own_val hos
    subst hv1
    obtain ⟨aw, cw, hvw, _⟩ := hsq
    subst hvw
    have hsq : SqR w1 (.slice aw (r.stops.length + 1) cw) (r.stops.length + 1) (siteD r) := (hgo rfl).sq (by omega)
    obtain ⟨W, hW⟩ : ∃ W, W = w1.alloc (.cells (ground r (.slice aos r.stops.length caps) (.slice ar nr cr) (.slice aw (r.stops.length + 1) cw)) 119) := ⟨_, rfl⟩
    obtain ⟨hA, hbW⟩ := area_box hW hst hsq
    have HC := hid (HAJ.out W _ _ _ hA)
    have HB1 : Hid (Below w.heap.size w W) := hb1.trans (hbW.mono hb1.size)
    have HWQ := hid hW
    clear hos hgo hst hsq hA hbW hb1 hW HAJ HCP
    unfold ground at *
    go_wp2_with (go_at_call 72; rw [← HWQ.out]; refine HC.out.mono ?_; intro e2 w2 hj2; obtain ⟨v2, rfl, j1, j2, j3⟩ := hj2)
    go_ret3
    exact ⟨v2, rfl, j1, fun S e => ⟨own_base (j2 S e).1 HB1.out.size, (j2 S e).2⟩, HB1.out.trans (j3.mono HB1.out.size)⟩
  · have hne : (er != 0) = true := by simp [h0]
    have HA : Hid (judgedS (r, nat, er) t.data.toList = (0, none, er)) := by show _ = _; unfold judgedS; rw [if_pos h0]
    generalize judgedS (r, nat, er) t.data.toList = ans at *
    clear hok hs h0
    go_enter Tryz.func35, Tryz.ntmps35
    go_wp2_with fail
    refine (HCP.out _).mono ?_
    rintro e1 w1 ⟨vs, vr, vw, rfl, hos, ⟨ar, nr, cr, rfl⟩, hz, _, hb1⟩
    obtain ⟨aos, caps, hv1, _, _⟩ := own_val hos
    subst hv1
    have hz' := hz (by simpa using hne)
    subst hz'
    have HB1 := hid hb1
    clear hos hz hb1 HCP
    unfold ground
    go_wp2_with fail
    go_ret3
    rw [HA.out]
    exact ⟨_, rfl, fun _ => rfl, fun S e => (by cases e), by first | exact HB1.out | exact HB1.out.alloc HB1.out.size _⟩
end Go.Proofs.YtebinaopncclgaaGreatDoor
