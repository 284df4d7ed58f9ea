/- Walks: Judge of a text that has an instance. -/
import Derived.Test.YtebinaopncclgaaJOf
namespace Go.Proofs.Ytebinaopncclgaa
open Go.RowKit Go.IntWalk

set_option maxRecDepth 100000 in
set_option maxHeartbeats 2000000 in
theorem open_ok (s : ByteArray) (r : Rd) (w : World) (hs : s.size ≤ maxLen) (hp : parseS s.data.toList = (r, 0, 0)) (hok : RdOk r) : Calls Try.prog 32 #[.string s] w (OpenLeft w (r, 0, 0)) := by
  have HCP : Hid (∀ W, Calls Try.prog 25 #[.string s] W (Parsed W (r, 0, 0))) := fun W => by rw [← hp]; exact parse_any s W hs
  have HOK := hid hok
  have hns := HOK.out.nstops
  have hnr := HOK.out.nroads
  clear hok hs hp
  go_enter Try.func32, Try.ntmps32
  go_wp2_with fail
  refine (HCP.out _).mono ?_
  rintro e1 w1 ⟨vs, vr, rfl, hos, hor, hb1⟩
  have hvs := hos
  unfold inst
  obtain ⟨aos, caps, hv1, _, _⟩ := own_val hos
  obtain ⟨aor, capr, hv2, _, _⟩ := own_val hor
  subst hv1 hv2
  have hz1 : w1.heap[w.heap.size]? = some (.cells zero8 72 (0, 0)) := by rw [hb1.block _ (by simp)]; exact heap_alloc_new w _
  have HB1 : Hid (Below w.heap.size w w1) := (below1 w _).trans (hb1.mono (by simp))
  have HS1 := hid (own_base hos (show w.heap.size ≤ _ by simp))
  have HR1 := hid (own_base hor (show w.heap.size ≤ _ by simp))
  have HZ1 := hid hz1
  have hzl : w.heap.size < w1.heap.size := (Array.getElem?_eq_some_iff.1 hz1).1
  clear hos hor hvs hb1 hz1 HCP
  go_wp2_with fail
  refine (of_any w.heap.size w.heap.size r (.slice aos r.stops.length caps) (.slice aor r.roads.length capr) _ HOK.out (by first | exact HS1.out.alloc _ | exact HS1.out) (by first | exact HR1.out.alloc _ | exact HR1.out)).mono ?_
  rintro e2 w2 ⟨v2, rfl, hg2, hb2⟩
  have hb12 : Below w1.heap.size w1 w2 := by first | exact (below1 w1 _).trans (hb2.mono (by simp)) | exact hb2
  have hz2 : w2.heap[w.heap.size]? = _ := (hb12.block _ hzl).trans HZ1.out
  obtain ⟨b0, b1, b2, b3, b4, b5, b6, b7, bf⟩ := eight hz2
  have hzl2 : w.heap.size < w2.heap.size := Nat.lt_of_lt_of_le hzl hb12.size
  have HG2 : Hid (GridO w2 w.heap.size v2 (r.stops.length + 1) (siteD r)) := hg2.base (by first | exact Nat.le_of_lt hzl | (simp; omega))
  obtain ⟨avw, _, rfl, _⟩ := hg2
  have HS2 := hid (own_below HS1.out hb12)
  have HB2 : Hid (Below w.heap.size w w2) := HB1.out.trans (hb12.mono HB1.out.size)
  have HZ2 := hid hz2
  clear hb2 hb12 hz2 HS1 HR1 HB1 HZ1
  unfold ground
  go_wp2
  refine bodyPost_ret (v := .tuple #[.agg (ground r (.slice aos r.stops.length caps) (.slice aor r.roads.length capr) (.slice (some ⟨avw, 0, none⟩) (r.stops.length + 1) (r.stops.length + 1))), .int .i64 0]) (by simp [results, Try.results32, go_sem, ground, b0, b1, b2, b3, b4, b5, b6, b7]) rfl ?_
  refine ⟨_, _, _, rfl, own_put8 HZ2.out HS2.out (by decide), ⟨_, _, _, rfl⟩, fun h => absurd rfl h, fun _ => ?_, below_put8 HB2.out (Nat.le_refl _) _ _ _ _ _ _ _ _⟩
  exact HG2.out.keep (put8_keep HZ2.out _ _ _ _ _ _ _ _) (by decide) (by decide)
theorem area_box {w W : World} {r : Rd} {vs vr vw : Value} (h : W = w.alloc (.cells (ground r vs vr vw) 72)) (hs : StR w vs r) (hq : SqR w vw (r.stops.length + 1) (siteD r)) : AreaAt W w.heap.size r (siteD r) vs vw ∧ Below w.heap.size w W := by
  subst h
  have hb := heap_alloc_new w (.cells (ground r vs vr vw) 72)
  have hw := below1 w (.cells (ground r vs vr vw) 72)
  refine ⟨⟨by simp, ?_, ?_, ?_, ?_, ?_, hs.below hw, hq.below hw⟩, hw⟩ <;> (rw [cell_of_row _ _ _ _ _ _ hb]; rfl)


set_option maxRecDepth 100000 in
set_option maxHeartbeats 2000000 in
theorem djudge_ok (s t : ByteArray) (r : Rd) (w : World) (hs : s.size ≤ maxLen) (ht : t.size ≤ maxLen) (hp : parseS s.data.toList = (r, 0, 0)) (hok : RdOk r) : Calls Try.prog 16 #[.string s, .string t] w (JudgeLeft w r.stops.length (judgeS r (siteD r) t.data.toList)) := by
  have HCP : Hid (∀ W, Calls Try.prog 32 #[.string s] W (OpenLeft W (r, 0, 0))) := fun W => open_ok s r W hs hp hok
  have HOK := hid hok
  have hns := HOK.out.nstops
  have HAJ : Hid (∀ (W : World) (p : Nat) (vs vf : Value), AreaAt W p r (siteD r) vs vf → Calls Try.prog 33 #[.pointer (some ⟨p, 0, none⟩), .string t] W (JudgeLeft W r.stops.length (judgeS r (siteD r) t.data.toList))) := fun W p vs vf ha => ajudge_any p r (siteD r) t vs vf W ht HOK.out ha (site_range HOK.out)
  generalize judgeS r (siteD r) t.data.toList = ans at *
  clear hok hs hp
  go_enter Try.func16, Try.ntmps16
  go_wp2_with fail
  refine (HCP.out _).mono ?_
  rintro e1 w1 ⟨vs, vr, vw, rfl, hos, ⟨ar, nr, cr, rfl⟩, _, hgo, hb1⟩
  dsimp only at hgo hos
  have hst := StR.own hos (fun s hs => (HOK.out.nice.stops s hs).1)
  have hsq : SqR w1 vw (r.stops.length + 1) (siteD r) := (hgo rfl).sq (by omega)
  obtain ⟨aos, caps, hv1, _, _⟩ := own_val hos
  subst hv1
  obtain ⟨aw, cw, hvw, _⟩ := hsq
  subst hvw
  have hsq : SqR w1 (.slice aw (r.stops.length + 1) cw) (r.stops.length + 1) (siteD r) := (hgo rfl).sq (by omega)
  obtain ⟨W, hW⟩ : ∃ W, W = w1.alloc (.cells (ground r (.slice aos r.stops.length caps) (.slice ar nr cr) (.slice aw (r.stops.length + 1) cw)) 72) := ⟨_, rfl⟩
  obtain ⟨hA, hbW⟩ := area_box hW hst hsq
  have HC := hid (HAJ.out W _ _ _ hA)
  have HB1 : Hid (Below w.heap.size w W) := hb1.trans (hbW.mono hb1.size)
  have HWQ := hid hW
  clear hos hgo hst hsq hA hbW hb1 hW HAJ HCP
  unfold ground at *
  go_wp2_with (go_at_call 33; rw [← HWQ.out]; refine HC.out.mono ?_; intro e2 w2 hj2; obtain ⟨v2, rfl, j1, j2, j3⟩ := hj2)
  go_ret3
  exact ⟨v2, rfl, j1, fun S e => ⟨own_base (j2 S e).1 HB1.out.size, (j2 S e).2⟩, HB1.out.trans (j3.mono HB1.out.size)⟩
end Go.Proofs.Ytebinaopncclgaa
