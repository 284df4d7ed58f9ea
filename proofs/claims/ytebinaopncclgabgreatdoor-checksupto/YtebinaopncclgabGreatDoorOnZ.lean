/- Walks of the document's answer: the ground of a text. -/
import Derived.Test.YtebinaopncclgabGreatDoorWaysZ
namespace Go.Proofs.YtebinaopncclgabGreatDoor
open Go.RowKit Go.IntWalk

def ground (r : Rd) (vs vr vw : Value) : Array Value := #[.int .i64 r.vans, .int .i64 r.load, .int .i64 r.close, .int .i64 r.nodes, .int .i64 r.home, vs, vr, vw]
def GroundLeft (w : World) (x : Rd × Nat × Int) (e : Ending) (w' : World) : Prop :=
  ∃ vs vr vw, e = .returned (.tuple #[.agg (ground x.1 vs vr vw), .int .i64 x.2.2]) ∧ w'.ownsRow w.heap.size 62 5 vs x.1.stops.length (ints x.1.stops.flatten) ∧ w'.ownsRow w.heap.size 64 3 vr x.1.roads.length (ints x.1.roads.flatten) ∧ (x.2.2 ≠ 0 → vw = .slice none 0 0) ∧ (x.2.2 = 0 → ∃ us, us.length = x.1.stops.length + 1 ∧ GridR w' w.heap.size w'.heap.size vw (x.1.stops.length + 1) (siteD x.1) us) ∧ Below w.heap.size w w'
theorem parse_zero {l : List UInt8} (h : (parseS l).2.2 ≠ 0) : (parseS l).1 = Rd0 := by
  unfold parseS at h ⊢
  split
  · rfl
  · rename_i h1
    rw [if_neg h1] at h
    split
    · rename_i h2
      rw [if_pos h2] at h
      split
      · rename_i h3; rw [if_pos h3] at h; exact absurd rfl h
      · rfl
    · rfl
def zero8 : Array Value := #[.int .i64 0, .int .i64 0, .int .i64 0, .int .i64 0, .int .i64 0, .slice none 0 0, .slice none 0 0, .slice none 0 0]
theorem eight {w : World} {b : Nat} {t : TypeId} (h : w.heap[b]? = some (.cells zero8 t (0, 0))) :
    w.cell? ⟨b, 0, none⟩ = some (.int .i64 0) ∧ w.cell? ⟨b, 1, none⟩ = some (.int .i64 0) ∧ w.cell? ⟨b, 2, none⟩ = some (.int .i64 0) ∧ w.cell? ⟨b, 3, none⟩ = some (.int .i64 0) ∧ w.cell? ⟨b, 4, none⟩ = some (.int .i64 0) ∧ w.cell? ⟨b, 5, none⟩ = some (.slice none 0 0) ∧ w.cell? ⟨b, 6, none⟩ = some (.slice none 0 0) ∧ w.cell? ⟨b, 7, none⟩ = some (.slice none 0 0) ∧ ∀ o, w.frozen? ⟨b, o, none⟩ = false := by
  refine ⟨?_, ?_, ?_, ?_, ?_, ?_, ?_, ?_, fun o => frozen_of_row w b o _ _ h⟩ <;> (rw [cell_of_row w b _ _ _ _ h]; rfl)
theorem put8_keep {w : World} {b : Nat} {cs : Array Value} {t : TypeId} (hb : w.heap[b]? = some (.cells cs t (0, 0))) (u0 u1 u2 u3 u4 u5 u6 u7 : Value) :
    Keep [t] w ((((((((w.setCell ⟨b, 0, none⟩ u0).setCell ⟨b, 1, none⟩ u1).setCell ⟨b, 2, none⟩ u2).setCell ⟨b, 3, none⟩ u3).setCell ⟨b, 4, none⟩ u4).setCell ⟨b, 5, none⟩ u5).setCell ⟨b, 6, none⟩ u6).setCell ⟨b, 7, none⟩ u7) := by
  intro k cur t' z hk ht
  have hne : k ≠ b := fun e => by rw [e, hb] at hk; cases hk; simp at ht
  rw [Below.heap_setCell _ _ _ _ hne, Below.heap_setCell _ _ _ _ hne, Below.heap_setCell _ _ _ _ hne, Below.heap_setCell _ _ _ _ hne, Below.heap_setCell _ _ _ _ hne, Below.heap_setCell _ _ _ _ hne, Below.heap_setCell _ _ _ _ hne, Below.heap_setCell _ _ _ _ hne]; exact hk
theorem below_put8 {B b : Nat} {w0 w : World} (h : Below B w0 w) (hB : B ≤ b) (u0 u1 u2 u3 u4 u5 u6 u7 : Value) : Below B w0 ((((((((w.setCell ⟨b, 0, none⟩ u0).setCell ⟨b, 1, none⟩ u1).setCell ⟨b, 2, none⟩ u2).setCell ⟨b, 3, none⟩ u3).setCell ⟨b, 4, none⟩ u4).setCell ⟨b, 5, none⟩ u5).setCell ⟨b, 6, none⟩ u6).setCell ⟨b, 7, none⟩ u7) :=
  (((((((h.setCell hB u0).setCell hB u1).setCell hB u2).setCell hB u3).setCell hB u4).setCell hB u5).setCell hB u6).setCell hB u7
theorem own_put8 {w : World} {b : Nat} {cs : Array Value} {t : TypeId} (hb : w.heap[b]? = some (.cells cs t (0, 0))) {B n size : Nat} {e : TypeId} {v : Value} {xs : List Value} (h : w.ownsRow B e size v n xs) (he : e ≠ t) {u0 u1 u2 u3 u4 u5 u6 u7 : Value} :
    ((((((((w.setCell ⟨b, 0, none⟩ u0).setCell ⟨b, 1, none⟩ u1).setCell ⟨b, 2, none⟩ u2).setCell ⟨b, 3, none⟩ u3).setCell ⟨b, 4, none⟩ u4).setCell ⟨b, 5, none⟩ u5).setCell ⟨b, 6, none⟩ u6).setCell ⟨b, 7, none⟩ u7).ownsRow B e size v n xs := own_keep h (put8_keep hb _ _ _ _ _ _ _ _) (by simpa using he)
theorem grid_put8 {w : World} {b : Nat} {cs : Array Value} (hb : w.heap[b]? = some (.cells cs 109 (0, 0))) {B U n : Nat} {v : Value} {D : Nat → Nat → Int} {vs : List Value} (h : GridR w B U v n D vs) {u0 u1 u2 u3 u4 u5 u6 u7 : Value} :
    GridR ((((((((w.setCell ⟨b, 0, none⟩ u0).setCell ⟨b, 1, none⟩ u1).setCell ⟨b, 2, none⟩ u2).setCell ⟨b, 3, none⟩ u3).setCell ⟨b, 4, none⟩ u4).setCell ⟨b, 5, none⟩ u5).setCell ⟨b, 6, none⟩ u6).setCell ⟨b, 7, none⟩ u7) B ((((((((w.setCell ⟨b, 0, none⟩ u0).setCell ⟨b, 1, none⟩ u1).setCell ⟨b, 2, none⟩ u2).setCell ⟨b, 3, none⟩ u3).setCell ⟨b, 4, none⟩ u4).setCell ⟨b, 5, none⟩ u5).setCell ⟨b, 6, none⟩ u6).setCell ⟨b, 7, none⟩ u7).heap.size v n D vs := by
  have hk := put8_keep hb u0 u1 u2 u3 u4 u5 u6 u7
  refine ⟨own_keep h.own hk (by decide), fun i hi => ?_⟩
  obtain ⟨gi, ci, cur, k1, k2, k3, k4⟩ := h.row i hi
  have k5 := hk _ _ _ _ k3 (by decide)
  exact ⟨gi, ci, cur, k1, ⟨k2.1, (Array.getElem?_eq_some_iff.1 k5).1⟩, k5, k4⟩

set_option maxRecDepth 100000 in
set_option maxHeartbeats 2000000 in
theorem on_any (s : ByteArray) (w : World) (hs : s.size ≤ maxLen) : Calls Tryz.prog 52 #[.string s] w (GroundLeft w (parseS s.data.toList)) := by
  have HCP : Hid (∀ W, Calls Tryz.prog 45 #[.string s] W (Parsed W (parseS s.data.toList))) := fun W => rparse_any s W hs
  have hok : (parseS s.data.toList).2.2 = 0 → RdOk (parseS s.data.toList).1 := parse_rdok
  have hzz : (parseS s.data.toList).2.2 ≠ 0 → (parseS s.data.toList).1 = Rd0 := parse_zero
  generalize parseS s.data.toList = x at *
  obtain ⟨r, nat, er⟩ := x
  by_cases h0 : er = 0
  · subst h0
    have HOK := hid (hok rfl)
    have hns := HOK.out.nstops
    have hnr := HOK.out.nroads
    clear hok hs hzz
    go_enter Tryz.func52, Tryz.ntmps52
    go_wp2_with fail
    refine (HCP.out _).mono ?_
    rintro e1 w1 ⟨vs, vr, rfl, hos, hor, hb1⟩
    unfold inst
    obtain ⟨aos, caps, hv1, _, _⟩ := own_val hos
    obtain ⟨aor, capr, hv2, _, _⟩ := own_val hor
    subst hv1 hv2
    have hz1 : w1.heap[w.heap.size]? = some (.cells zero8 109 (0, 0)) := by rw [hb1.block _ (by simp)]; exact heap_alloc_new w _
    have HB1 : Hid (Below w.heap.size w w1) := (below1 w _).trans (hb1.mono (by simp))
    have HS1 := hid (own_base hos (show w.heap.size ≤ _ by simp))
    have HR1 := hid (own_base hor (show w.heap.size ≤ _ by simp))
    have HZ1 := hid hz1
    have hzl : w.heap.size < w1.heap.size := (Array.getElem?_eq_some_iff.1 hz1).1
    clear hos hor hb1 hz1 HCP
    go_wp2_with fail
    refine (rways_any w.heap.size w.heap.size r (.slice aos r.stops.length caps) (.slice aor r.roads.length capr) _ HOK.out (HS1.out.alloc _) (HR1.out.alloc _)).mono ?_
    rintro e2 w2 ⟨v2, us, rfl, hul, hg2, hb2⟩
    have hb12 : Below w1.heap.size w1 w2 := (below1 w1 _).trans (hb2.mono (by simp))
    have hx2 : w2.heap[w1.heap.size]? = some (.cells #[.int .i64 r.vans, .int .i64 r.load, .int .i64 r.close, .int .i64 r.nodes, .int .i64 r.home, .slice aos r.stops.length caps, .slice aor r.roads.length capr] 28 (0, 0)) := by
      rw [hb2.block _ (by simp)]; exact heap_alloc_new w1 _
    have hz2 : w2.heap[w.heap.size]? = _ := (hb12.block _ hzl).trans HZ1.out
    obtain ⟨q0, q1, q2, q3, q4, q5, q6, _⟩ := seven hx2
    obtain ⟨b0, b1, b2, b3, b4, b5, b6, b7, bf⟩ := eight hz2
    have hxl : w1.heap.size < w2.heap.size := (Array.getElem?_eq_some_iff.1 hx2).1
    have hzl2 : w.heap.size < w2.heap.size := by omega
    obtain ⟨avw, cvw, hvw, _, _⟩ := own_val hg2.own
    rw [hul] at hvw
    subst hvw
    have HS2 := hid (own_below HS1.out hb12)
    have HR2 := hid (own_below HR1.out hb12)
    have HG2 := hid (hg2.base (show w.heap.size ≤ _ by simp; omega))
    have HB2 : Hid (Below w.heap.size w w2) := HB1.out.trans (hb12.mono HB1.out.size)
    have HZ2 := hid hz2
    clear hg2 hb2 hb12 hx2 hz2 HS1 HR1 HB1 HZ1
    go_wp2
    refine bodyPost_ret (v := .tuple #[.agg (ground r (.slice aos r.stops.length caps) (.slice aor r.roads.length capr) (.slice avw (r.stops.length + 1) cvw)), .int .i64 0]) (by simp [results, Tryz.results52, go_sem, ground, b0, b1, b2, b3, b4, b5, b6, b7]) rfl ?_
    refine ⟨_, _, _, rfl, own_put8 HZ2.out HS2.out (by decide), own_put8 HZ2.out HR2.out (by decide), fun h => absurd rfl h, fun _ => ⟨us, hul, ?_⟩, below_put8 HB2.out (Nat.le_refl _) _ _ _ _ _ _ _ _⟩
    exact grid_put8 HZ2.out HG2.out
  · have hne : (er != 0) = true := by simp [h0]
    have HNE := hid h0
    have hr0 : r = Rd0 := hzz h0
    subst hr0
    clear hok hs h0 hzz
    go_enter Tryz.func52, Tryz.ntmps52
    go_wp2_with fail
    refine (HCP.out _).mono ?_
    rintro e1 w1 ⟨vs, vr, rfl, hos, hor, hb1⟩
    have hz1 : w1.heap[w.heap.size]? = some (.cells zero8 109 (0, 0)) := by rw [hb1.block _ (by simp)]; exact heap_alloc_new w _
    obtain ⟨b0, b1, b2, b3, b4, b5, b6, b7, bf⟩ := eight hz1
    have hzl : w.heap.size < w1.heap.size := (Array.getElem?_eq_some_iff.1 hz1).1
    have HB1 : Hid (Below w.heap.size w w1) := (below1 w _).trans (hb1.mono (by simp))
    unfold inst
    obtain ⟨aos, caps, hv1, _, _⟩ := own_val hos
    obtain ⟨aor, capr, hv2, _, _⟩ := own_val hor
    subst hv1 hv2
    clear hos hor hb1 hz1 HCP
    go_wp2
    refine bodyPost_ret (v := .tuple #[.agg zero8, .int .i64 er]) (by simp [results, Tryz.results52, go_sem, zero8, b0, b1, b2, b3, b4, b5, b6, b7, hzl]) rfl ?_
    refine ⟨.slice none 0 0, .slice none 0 0, .slice none 0 0, rfl, World.ownsRow_nil _ _ _ _, World.ownsRow_nil _ _ _ _, fun _ => rfl, fun h => absurd h HNE.out, ?_⟩
    have h8 := below_put8 HB1.out (Nat.le_refl _) (.int .i64 0) (.int .i64 0) (.int .i64 0) (.int .i64 0) (.int .i64 0) (.slice none 0 0) (.slice none 0 0) (.slice none 0 0)
    exact h8.alloc h8.size _
end Go.Proofs.YtebinaopncclgabGreatDoor
