/- Walks of the statements: one step: Ways. -/
import Derived.Test.YtebinaopncclgaaGreatDoorWaysZ
import Derived.Test.YtebinaopncclgaaGreatDoorHoldR
namespace Go.Proofs.YtebinaopncclgaaGreatDoor
open Go.RowKit Go.IntWalk

def ground (r : Rd) (vs vr vw : Value) : Array Value := #[.int .i64 r.vans, .int .i64 r.load, .int .i64 r.close, .int .i64 r.nodes, .int .i64 r.home, vs, vr, vw]
def GroundLeft (w : World) (x : Rd × Nat × Int) (e : Ending) (w' : World) : Prop :=
  ∃ vs vr vw, e = .returned (.tuple #[.agg (ground x.1 vs vr vw), .int .i64 x.2.2]) ∧ w'.ownsRow w.heap.size 50 5 vs x.1.stops.length (ints x.1.stops.flatten) ∧ w'.ownsRow w.heap.size 52 3 vr x.1.roads.length (ints x.1.roads.flatten) ∧ (x.2.2 ≠ 0 → vw = .slice none 0 0) ∧ (x.2.2 = 0 → ∃ us, us.length = x.1.stops.length + 1 ∧ GridR w' w.heap.size w'.heap.size vw (x.1.stops.length + 1) (siteD x.1) us) ∧ Below w.heap.size w w'
theorem parse_zero {l : List UInt8} (h : (parseS l).2.2 ≠ 0) : (parseS l).1 = Rd0 := by
  unfold parseS at h ⊢
  split
  · rfl
  · rename_i h1
    rw [if_neg h1] at h
    split
    · rename_i h2
      rw [if_pos h2] at h
      split
      · rename_i h3; rw [if_pos h3] at h; exact absurd rfl h
      · rfl
    · rfl
def zero8 : Array Value := #[.int .i64 0, .int .i64 0, .int .i64 0, .int .i64 0, .int .i64 0, .slice none 0 0, .slice none 0 0, .slice none 0 0]
theorem eight {w : World} {b : Nat} {t : TypeId} (h : w.heap[b]? = some (.cells zero8 t (0, 0))) :
    w.cell? ⟨b, 0, none⟩ = some (.int .i64 0) ∧ w.cell? ⟨b, 1, none⟩ = some (.int .i64 0) ∧ w.cell? ⟨b, 2, none⟩ = some (.int .i64 0) ∧ w.cell? ⟨b, 3, none⟩ = some (.int .i64 0) ∧ w.cell? ⟨b, 4, none⟩ = some (.int .i64 0) ∧ w.cell? ⟨b, 5, none⟩ = some (.slice none 0 0) ∧ w.cell? ⟨b, 6, none⟩ = some (.slice none 0 0) ∧ w.cell? ⟨b, 7, none⟩ = some (.slice none 0 0) ∧ ∀ o, w.frozen? ⟨b, o, none⟩ = false := by
  refine ⟨?_, ?_, ?_, ?_, ?_, ?_, ?_, ?_, fun o => frozen_of_row w b o _ _ h⟩ <;> (rw [cell_of_row w b _ _ _ _ h]; rfl)
theorem put8_keep {w : World} {b : Nat} {cs : Array Value} {t : TypeId} (hb : w.heap[b]? = some (.cells cs t (0, 0))) (u0 u1 u2 u3 u4 u5 u6 u7 : Value) :
    Keep [t] w ((((((((w.setCell ⟨b, 0, none⟩ u0).setCell ⟨b, 1, none⟩ u1).setCell ⟨b, 2, none⟩ u2).setCell ⟨b, 3, none⟩ u3).setCell ⟨b, 4, none⟩ u4).setCell ⟨b, 5, none⟩ u5).setCell ⟨b, 6, none⟩ u6).setCell ⟨b, 7, none⟩ u7) := by
  intro k cur t' z hk ht
  have hne : k ≠ b := fun e => by rw [e, hb] at hk; cases hk; simp at ht
  rw [Below.heap_setCell _ _ _ _ hne, Below.heap_setCell _ _ _ _ hne, Below.heap_setCell _ _ _ _ hne, Below.heap_setCell _ _ _ _ hne, Below.heap_setCell _ _ _ _ hne, Below.heap_setCell _ _ _ _ hne, Below.heap_setCell _ _ _ _ hne, Below.heap_setCell _ _ _ _ hne]; exact hk
theorem below_put8 {B b : Nat} {w0 w : World} (h : Below B w0 w) (hB : B ≤ b) (u0 u1 u2 u3 u4 u5 u6 u7 : Value) : Below B w0 ((((((((w.setCell ⟨b, 0, none⟩ u0).setCell ⟨b, 1, none⟩ u1).setCell ⟨b, 2, none⟩ u2).setCell ⟨b, 3, none⟩ u3).setCell ⟨b, 4, none⟩ u4).setCell ⟨b, 5, none⟩ u5).setCell ⟨b, 6, none⟩ u6).setCell ⟨b, 7, none⟩ u7) :=
  (((((((h.setCell hB u0).setCell hB u1).setCell hB u2).setCell hB u3).setCell hB u4).setCell hB u5).setCell hB u6).setCell hB u7
theorem own_put8 {w : World} {b : Nat} {cs : Array Value} {t : TypeId} (hb : w.heap[b]? = some (.cells cs t (0, 0))) {B n size : Nat} {e : TypeId} {v : Value} {xs : List Value} (h : w.ownsRow B e size v n xs) (he : e ≠ t) {u0 u1 u2 u3 u4 u5 u6 u7 : Value} :
    ((((((((w.setCell ⟨b, 0, none⟩ u0).setCell ⟨b, 1, none⟩ u1).setCell ⟨b, 2, none⟩ u2).setCell ⟨b, 3, none⟩ u3).setCell ⟨b, 4, none⟩ u4).setCell ⟨b, 5, none⟩ u5).setCell ⟨b, 6, none⟩ u6).setCell ⟨b, 7, none⟩ u7).ownsRow B e size v n xs := own_keep h (put8_keep hb _ _ _ _ _ _ _ _) (by simpa using he)
theorem grid_put8 {w : World} {b : Nat} {cs : Array Value} (hb : w.heap[b]? = some (.cells cs 70 (0, 0))) {B U n : Nat} {v : Value} {D : Nat → Nat → Int} {vs : List Value} (h : GridR w B U v n D vs) {u0 u1 u2 u3 u4 u5 u6 u7 : Value} :
    GridR ((((((((w.setCell ⟨b, 0, none⟩ u0).setCell ⟨b, 1, none⟩ u1).setCell ⟨b, 2, none⟩ u2).setCell ⟨b, 3, none⟩ u3).setCell ⟨b, 4, none⟩ u4).setCell ⟨b, 5, none⟩ u5).setCell ⟨b, 6, none⟩ u6).setCell ⟨b, 7, none⟩ u7) B ((((((((w.setCell ⟨b, 0, none⟩ u0).setCell ⟨b, 1, none⟩ u1).setCell ⟨b, 2, none⟩ u2).setCell ⟨b, 3, none⟩ u3).setCell ⟨b, 4, none⟩ u4).setCell ⟨b, 5, none⟩ u5).setCell ⟨b, 6, none⟩ u6).setCell ⟨b, 7, none⟩ u7).heap.size v n D vs := by
  have hk := put8_keep hb u0 u1 u2 u3 u4 u5 u6 u7
  refine ⟨own_keep h.own hk (by decide), fun i hi => ?_⟩
  obtain ⟨gi, ci, cur, k1, k2, k3, k4⟩ := h.row i hi
  have k5 := hk _ _ _ _ k3 (by decide)
  exact ⟨gi, ci, cur, k1, ⟨k2.1, (Array.getElem?_eq_some_iff.1 k5).1⟩, k5, k4⟩

set_option maxRecDepth 100000 in
set_option maxHeartbeats 2000000 in
theorem on_any (s : ByteArray) (w : World) (hs : s.size ≤ maxLen) : Calls Tryz.prog 30 #[.string s] w (GroundLeft w (parseS s.data.toList)) := by
  have HCP : Hid (∀ W, Calls Tryz.prog 22 #[.string s] W (Parsed W (parseS s.data.toList))) := fun W => rparse_any s W hs
  have hok : (parseS s.data.toList).2.2 = 0 → RdOk (parseS s.data.toList).1 := parse_rdok
  have hzz : (parseS s.data.toList).2.2 ≠ 0 → (parseS s.data.toList).1 = Rd0 := parse_zero
  generalize parseS s.data.toList = x at *
  obtain ⟨r, nat, er⟩ := x
  by_cases h0 : er = 0
  · subst h0
    have HOK := hid (hok rfl)
    have hns := HOK.out.nstops
    have hnr := HOK.out.nroads
    clear hok hs hzz
    go_enter Tryz.func30, Tryz.ntmps30
    go_wp2_with fail
    refine (HCP.out _).mono ?_
    rintro e1 w1 ⟨vs, vr, rfl, hos, hor, hb1⟩
    unfold inst
    obtain ⟨aos, caps, hv1, _, _⟩ := own_val hos
    obtain ⟨aor, capr, hv2, _, _⟩ := own_val hor
    subst hv1 hv2
    have hz1 : w1.heap[w.heap.size]? = some (.cells zero8 70 (0, 0)) := by rw [hb1.block _ (by simp)]; exact heap_alloc_new w _
    have HB1 : Hid (Below w.heap.size w w1) := (below1 w _).trans (hb1.mono (by simp))
    have HS1 := hid (own_base hos (show w.heap.size ≤ _ by simp))
    have HR1 := hid (own_base hor (show w.heap.size ≤ _ by simp))
    have HZ1 := hid hz1
    have hzl : w.heap.size < w1.heap.size := (Array.getElem?_eq_some_iff.1 hz1).1
    clear hos hor hb1 hz1 HCP
    go_wp2_with fail
    refine (rways_any w.heap.size w.heap.size r (.slice aos r.stops.length caps) (.slice aor r.roads.length capr) _ HOK.out (HS1.out.alloc _) (HR1.out.alloc _)).mono ?_
    rintro e2 w2 ⟨v2, us, rfl, hul, hg2, hb2⟩
    have hb12 : Below w1.heap.size w1 w2 := (below1 w1 _).trans (hb2.mono (by simp))
    have hx2 : w2.heap[w1.heap.size]? = some (.cells #[.int .i64 r.vans, .int .i64 r.load, .int .i64 r.close, .int .i64 r.nodes, .int .i64 r.home, .slice aos r.stops.length caps, .slice aor r.roads.length capr] 36 (0, 0)) := by
      rw [hb2.block _ (by simp)]; exact heap_alloc_new w1 _
    have hz2 : w2.heap[w.heap.size]? = _ := (hb12.block _ hzl).trans HZ1.out
    obtain ⟨q0, q1, q2, q3, q4, q5, q6, _⟩ := seven hx2
    obtain ⟨b0, b1, b2, b3, b4, b5, b6, b7, bf⟩ := eight hz2
    have hxl : w1.heap.size < w2.heap.size := (Array.getElem?_eq_some_iff.1 hx2).1
    have hzl2 : w.heap.size < w2.heap.size := by omega
    obtain ⟨avw, cvw, hvw, _, _⟩ := own_val hg2.own
    rw [hul] at hvw
    subst hvw
    have HS2 := hid (own_below HS1.out hb12)
    have HR2 := hid (own_below HR1.out hb12)
    have HG2 := hid (hg2.base (show w.heap.size ≤ _ by simp; omega))
    have HB2 : Hid (Below w.heap.size w w2) := HB1.out.trans (hb12.mono HB1.out.size)
    have HZ2 := hid hz2
    clear hg2 hb2 hb12 hx2 hz2 HS1 HR1 HB1 HZ1
    go_wp2
    refine bodyPost_ret (v := .tuple #[.agg (ground r (.slice aos r.stops.length caps) (.slice aor r.roads.length capr) (.slice avw (r.stops.length + 1) cvw)), .int .i64 0]) (by simp [results, Tryz.results30, go_sem, ground, b0, b1, b2, b3, b4, b5, b6, b7]) rfl ?_
    refine ⟨_, _, _, rfl, own_put8 HZ2.out HS2.out (by decide), own_put8 HZ2.out HR2.out (by decide), fun h => absurd rfl h, fun _ => ⟨us, hul, ?_⟩, below_put8 HB2.out (Nat.le_refl _) _ _ _ _ _ _ _ _⟩
    exact grid_put8 HZ2.out HG2.out
  · have hne : (er != 0) = true := by simp [h0]
    have HNE := hid h0
    have hr0 : r = Rd0 := hzz h0
    subst hr0
    clear hok hs h0 hzz
    go_enter Tryz.func30, Tryz.ntmps30
    go_wp2_with fail
    refine (HCP.out _).mono ?_
    rintro e1 w1 ⟨vs, vr, rfl, hos, hor, hb1⟩
    have hz1 : w1.heap[w.heap.size]? = some (.cells zero8 70 (0, 0)) := by rw [hb1.block _ (by simp)]; exact heap_alloc_new w _
    obtain ⟨b0, b1, b2, b3, b4, b5, b6, b7, bf⟩ := eight hz1
    have hzl : w.heap.size < w1.heap.size := (Array.getElem?_eq_some_iff.1 hz1).1
    have HB1 : Hid (Below w.heap.size w w1) := (below1 w _).trans (hb1.mono (by simp))
    unfold inst
    obtain ⟨aos, caps, hv1, _, _⟩ := own_val hos
    obtain ⟨aor, capr, hv2, _, _⟩ := own_val hor
    subst hv1 hv2
    clear hos hor hb1 hz1 HCP
    go_wp2
    refine bodyPost_ret (v := .tuple #[.agg zero8, .int .i64 er]) (by simp [results, Tryz.results30, go_sem, zero8, b0, b1, b2, b3, b4, b5, b6, b7, hzl]) rfl ?_
    refine ⟨.slice none 0 0, .slice none 0 0, .slice none 0 0, rfl, World.ownsRow_nil _ _ _ _, World.ownsRow_nil _ _ _ _, fun _ => rfl, fun h => absurd h HNE.out, ?_⟩
    have h8 := below_put8 HB1.out (Nat.le_refl _) (.int .i64 0) (.int .i64 0) (.int .i64 0) (.int .i64 0) (.int .i64 0) (.slice none 0 0) (.slice none 0 0) (.slice none 0 0)
    exact h8.alloc h8.size _
end Go.Proofs.YtebinaopncclgaaGreatDoor
namespace Go.Proofs.YtebinaopncclgaaGreatDoor
open Go.RowKit Go.IntWalk

theorem eight_at {w : World} {b : Nat} {x0 x1 x2 x3 x4 x5 x6 x7 : Value} {t : TypeId} (h : w.heap[b]? = some (.cells #[x0, x1, x2, x3, x4, x5, x6, x7] t (0, 0))) : w.cell? ⟨b, 7, none⟩ = some x7 ∧ b < w.heap.size :=
  ⟨by rw [cell_of_row _ _ _ _ _ _ h]; rfl, (Array.getElem?_eq_some_iff.1 h).1⟩

set_option maxRecDepth 100000 in
set_option maxHeartbeats 2000000 in
theorem inst_ways (bb hb m : Nat) (o : OpV) (w : World) (ho : o.k = 3) (hos : o.s.size ≤ maxLen) (h : HoldInv w bb hb m) (hm : m ≤ 703687441776) (hbb : bb ≤ w.heap.size) :
    Calls Tryz.prog 13 #[.pointer (some ⟨hb, 0, none⟩), .agg o.vals] w fun e w' => e = .returned (.bool true) ∧ HoldInv w' bb hb (m + 1) ∧ Below bb w w' := by
  obtain ⟨vi, vr, vs, vd, vn, I, R, S, D, N, h1, h2, h3, h4, h5, h6, h7⟩ := h
  have HH := hid h1
  have hbl : hb < w.heap.size := (Array.getElem?_eq_some_iff.1 h1.box).1
  have HP : Hid (∀ W, Calls Tryz.prog 29 #[.string o.s] W (WaysLeft W (parseS o.s.data.toList))) := fun W => dways_any o.s W hos
  have HQ : Hid (∀ W, Calls Tryz.prog 30 #[.string o.s] W (GroundLeft W (parseS o.s.data.toList))) := fun W => on_any o.s W hos
  have HFN := hid (parse_fine o.s.data.toList)
  have hxr := parse_range o.s.data.toList
  have HOB := hid (op_box o w)
  generalize parseS o.s.data.toList = x at *
  obtain ⟨r, nat, er⟩ := x
  have hst : r.stops.length ≤ 7 := HFN.out.1
  unfold OpV.vals
  rw [ho]
  clear h1
  go_enter Tryz.func13, Tryz.ntmps13
  go_wp2_with fail
  rw [← ho]
  refine (HP.out _).mono ?_
  rintro e1 w1 ⟨v1, rfl, hn1, hg1, hb1⟩
  dsimp only at hn1 hg1
  have hws : w.heap.size + 1 ≤ w1.heap.size := by have := hb1.size; simpa using this
  have hob1 := op_below HOB.out hb1
  obtain ⟨o2, hol⟩ := op_s hob1
  obtain ⟨ao, n, g, G, hv1, hn8, hsq, hsr⟩ : ∃ ao n g G, v1 = .slice ao n n ∧ n ≤ 8 ∧ SqO w1 (w.heap.size + 1) ao n g G ∧ SqR w1 v1 n (siteD r) ∧ (er ≠ 0 → n = 0) ∧ (er = 0 → n = r.stops.length + 1) := by
    by_cases h0 : er = 0
    · have hg := hg1 h0
      obtain ⟨ao, g, G, e, hs⟩ := sqO_of hg (by omega)
      have : ((w.alloc (.cells o.vals 39)).heap.size) = w.heap.size + 1 := by simp
      exact ⟨ao, r.stops.length + 1, g, G, e, by omega, by rw [← this]; exact hs, hg.sq (by omega), fun h => absurd h0 h, fun _ => rfl⟩
    · exact ⟨none, 0, 0, fun _ => 0, hn1 h0, by omega, sqO_nil _ _, by rw [hn1 h0]; exact SqR.nil _ _, fun _ => rfl, fun h => absurd h h0⟩
  obtain ⟨hsr, hz0, hz1⟩ := hsr
  have HB1 : Hid (Below w.heap.size w w1) := (below1 w _).trans (hb1.mono (by simp))
  have HSQ := hid hsq
  have HSR := hid hsr
  have HZ0 := hid hz0
  have HZ1 := hid hz1
  subst hv1
  clear hn1 hg1 hb1 hsq hsr hz0 hz1 HP HOB hob1
  go_wp2_with fail
  refine (HQ.out _).mono ?_
  rintro e2 w2 ⟨us, ur, uw, rfl, hos2, hor2, hn2, hg2, hb2⟩
  dsimp only at hn2 hg2 hos2 hor2
  obtain ⟨aus, cus, hv2, _, _⟩ := own_val hos2
  obtain ⟨aur, cur, hv3, _, _⟩ := own_val hor2
  subst hv2 hv3
  have hsr2 : SqR w2 uw n (siteD r) := by
    by_cases h0 : er = 0
    · obtain ⟨us', hu1, hu2⟩ := hg2 h0
      have := hu2.sq hu1 (by omega)
      rw [HZ1.out h0]; exact this
    · rw [hn2 h0, HZ0.out h0]; exact SqR.nil _ _
  obtain ⟨auw, cuw, huw, _⟩ := hsr2
  have HSR2 : Hid (SqR w2 uw n (siteD r)) := by
    by_cases h0 : er = 0
    · obtain ⟨us', hu1, hu2⟩ := hg2 h0
      have := hu2.sq hu1 (by omega)
      show SqR _ _ _ _; rw [HZ1.out h0]; exact this
    · show SqR _ _ _ _; rw [hn2 h0, HZ0.out h0]; exact SqR.nil _ _
  subst huw
  have HB2 := hid hb2
  clear hos2 hor2 hn2 hg2 hb2 HQ o2 hol
  unfold ground
  go_wp2_with fail
  have hby : Below w2.heap.size w2 (w2.alloc (.cells #[.int .i64 r.vans, .int .i64 r.load, .int .i64 r.close, .int .i64 r.nodes, .int .i64 r.home, .slice aus r.stops.length cus, .slice aur r.roads.length cur, .slice auw n cuw] 70)) := below1 w2 _
  refine (sameSquare_any n (.slice ao n n) (.slice auw n cuw) (siteD r) _ ((HSR.out.below HB2.out).below hby) (HSR2.out.below hby)).mono ?_
  rintro e3 w3 ⟨rfl, hb3⟩
  have hb23 : Below w2.heap.size w2 w3 := hby.trans (hb3.mono (by simp))
  have hb13 : Below w1.heap.size w1 w3 := HB2.out.trans (hb23.mono HB2.out.size)
  have hb03 : Below w.heap.size w w3 := HB1.out.trans (hb13.mono HB1.out.size)
  have hs1 := HB1.out.size
  have hs3 := hb13.size
  have hcon := square_walk bb w.heap.size hb (w.heap.size + 1) n g G ao vi vr vs vd vn I R S D N w3 (HH.out.below hb03 (Nat.le_refl _)) (by omega) (by omega) (by omega) (by omega) (by omega) (by omega) h7 (fun k hk => by have := (HH.out.oi.lt k hk).2; omega) (by omega) (HSQ.out.below hb13)
  have HC := hid hcon
  have HB03 := hid hb03
  clear hcon hb03 hb13 hb23 hb3 hby HSR HSR2 HSQ
  go_wp2_with fail
  refine HC.out.mono ?_
  rintro e4 w4 ⟨vi', vr', L, s1, rfl, hh4, hl4, hs4, hb4⟩
  have HI4 : Hid (HoldInv w4 bb hb (m + 1)) := ⟨vi', vr', vs, vd, vn, I ++ L, R ++ [s1], S, D, N, hh4, h2, by simp; omega, by simp; omega, by omega, by omega, hs4⟩
  have HB4 : Hid (Below bb w w4) := (HB03.out.mono hbb).trans hb4
  clear hh4 hl4 hs4 hb4 HC
  go_wp2_with (go_at_call 19; refine (num_any _ _ hxr).mono ?_; rintro e5 w5 ⟨rfl, rfl⟩)
  go_ret
  exact ⟨ret_bool (by simp), HI4.out, HB4.out⟩

set_option maxRecDepth 100000 in
set_option maxHeartbeats 1000000 in
theorem plays_ways (w0 : World) (hb : Nat) (o : OpV) (ho : o.k = 3) (hos : o.s.size ≤ maxLen) : Plays w0 hb o := by
  intro w m h hm hw0
  have hbb : w0.heap.size ≤ w.heap.size := hw0.size
  generalize w0.heap.size = bb at *
  have HC := hid (inst_ways bb hb m o (w.alloc (.cells o.vals 39)) ho hos (h.below (below1 w _)) hm (by simp; omega))
  unfold OpV.vals at HC ⊢
  rw [ho] at HC ⊢
  go_enter Tryz.func11, Tryz.ntmps11
  go_wp2_with fail
  refine HC.out.mono ?_
  rintro e2 w2 ⟨rfl, hi2, hb2⟩
  have HI2 := hid hi2
  have HB2 : Hid (Below bb w w2) := ((below1 w _).mono hbb).trans hb2
  clear hi2 hb2 HC
  go_wp2
  go_ret
  exact ⟨rfl, HI2.out, HB2.out⟩

set_option maxRecDepth 100000 in
set_option maxHeartbeats 1000000 in
theorem lengths_walk (ao : Option Addr) (n c : Nat) (ops : Nat → OpV) (w : World) (hn : n ≤ 703687441776) (hs : ScriptAt w ao n ops) (hos : ∀ i, i < n → (ops i).s.size ≤ maxLen) :
    Calls Tryz.prog 5 #[.slice ao n c] w fun e w' => e = .returned (.bool true) ∧ Below w.heap.size w w' := by
  have HC := hid (upto_walk 3 3 ao n c ops w hn hs (fun i hi h1 h2 => plays_ways _ _ _ (by omega) (hos i hi)))
  clear hs hos
  go_enter Tryz.func5, Tryz.ntmps5
  go_wp2_with fail
  refine HC.out.mono ?_
  rintro e2 w2 ⟨rfl, hb2⟩
  go_wp2
  go_ret
  exact ⟨rfl, hb2⟩
end Go.Proofs.YtebinaopncclgaaGreatDoor
