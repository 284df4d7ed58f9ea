/- Walks: whatever tree Check accepts, the claim is so. -/
import Derived.Test.YtebinaopncclgabLaw
import Derived.ProofKit
import Derived.OpenShut
import Derived.ChangeOld
import Derived.Below
import Derived.Deep.Slices
import Derived.Test.YtebinaopncclgabSShow
namespace Go.Proofs.Ytebinaopncclgab
open Go.ChangeShapes Go.WideShapes Go.ChangeAt Go.RowKit Go.Deep

theorem own : ownKnob Try.prog.godebug = none := by kernel_rfl
theorem laidOut : laidOutB Try.prog = true := by kernel_rfl

/- a struct whose fields are ints, one cell each -/
theorem ints_of {H : Type} {enc : TypeId × Value → H} {P : Program} {w : World} {base : Nat} {spare : Nat → Bool} {held : Bool} {e : TypeId} {fs : Array Field} {fuel k : Nat} {cs : List Value} {x : DataW H × List MemPlace}
    (he : P.underlying e = some (.struct fs)) (hk : k ≤ fs.size) (hf : ∀ i, i < k → ∃ f, fs[i]? = some f ∧ f.offset = i ∧ P.cellsOf f.type = 1 ∧ P.underlying f.type = some (.int .i64))
    (h : DataW.trod enc P w base spare held fuel e cs = some x) : ∀ i, i < k → ∃ z, cs[i]? = some (.int .i64 z) ∧ (Lit.int .i64 z).wf = true := by
  intro i hi
  obtain ⟨xs, n, _, _, _, hxl, hfl⟩ := DataW.trod_struct he h
  obtain ⟨f, hfi, ho, hc, hu⟩ := hf i hi
  have g := hfl i f hfi
  rw [ho, hc] at g
  have hxi : i < xs.length := by omega
  rw [List.getElem?_eq_getElem hxi] at g
  obtain ⟨z, hz, _, hw⟩ := DataW.trod_int hu g
  refine ⟨z, ?_, hw⟩
  have := congrArg (fun l => l[0]?) hz
  simpa using this
theorem wf_range {z : Int} (h : (Lit.int .i64 z).wf = true) : -9223372036854775808 ≤ z ∧ z ≤ 9223372036854775807 := by
  simp [Lit.wf, IntKind.min, IntKind.max, IntKind.signed, IntKind.bits] at h
  exact ⟨by omega, by omega⟩
/- a list of such structs that came in -/
theorem came_of {H : Type} {enc : TypeId × Value → H} {P : Program} {w : World} {held : Bool} {t e : TypeId} {fs : Array Field} {fuel k : Nat} {c : Value} {x : DataW H × List MemPlace}
    (ht : P.underlying t = some (.slice e)) (he : P.underlying e = some (.struct fs)) (hk : k ≤ fs.size) (hce : P.cellsOf e = k) (hf : ∀ i, i < k → ∃ f, fs[i]? = some f ∧ f.offset = i ∧ P.cellsOf f.type = 1 ∧ P.underlying f.type = some (.int .i64)) (hk0 : 0 < k)
    (h : DataW.trod enc P w 0 (fun _ => true) held fuel t [c] = some x) :
    ∃ ao len cap S, c = .slice ao len cap ∧ len ≤ 9223372036854775807 ∧ Came w ao len k S := by
  rcases open_slice ht h with ⟨hcs, _⟩ | ⟨a, len, cap, m, n, D, Pl, hcs, _, hl, hm, hmm, _, hx⟩
  · cases hcs
    exact ⟨none, 0, 0, fun _ _ => 0, rfl, by omega, fun h => absurd h (by omega)⟩
  · cases hcs
    simp only [if_true] at hmm
    subst hmm
    have each : ∀ i, i < len → ∃ s : Nat → Int, ∀ j, j < k → w.cell? (a.add (i * k + j)) = some (.int .i64 (s j)) ∧ (Lit.int .i64 (s j)).wf = true := by
      intro i hi
      obtain ⟨cs', h1, h2⟩ := hx i (by omega)
      rw [hce] at h1
      obtain ⟨_, hlen, hcell⟩ := World.cells?_some h1
      have hz := ints_of he hk hf h2
      obtain ⟨s, hs⟩ := choose_lt (α := Int) hz
      refine ⟨s, fun j hj => ⟨?_, (hs j hj).2⟩⟩
      have e1 := hcell j (by omega)
      rw [add_add] at e1
      rw [e1]; exact (hs j hj).1
    obtain ⟨S, hS⟩ := choose_lt (α := Nat → Int) each
    refine ⟨some a, len, _, S, rfl, by unfold maxLen at hm; omega, fun hn => ?_⟩
    obtain ⟨b, off, spot⟩ := a
    have hc0 := (hS 0 hn 0 hk0).1
    have hspot : spot = none := by simpa [Addr.add] using World.cell?_spot hc0
    subst hspot
    refine ⟨b, off, rfl, ?_, fun i j hi hj => ?_⟩
    · rw [Addr.add_lit] at hc0; exact World.block_lt_of_cell? w _ hc0
    · have h1 := hS i hi j hj
      refine ⟨?_, wf_range h1.2⟩
      have h2 := h1.1
      rw [Addr.add_lit, ← Nat.add_assoc] at h2
      exact h2
theorem array7 {α : Type} {cs : Array α} (h : cs.size = 7) : ∃ c0 c1 c2 c3 c4 c5 c6, cs = #[c0, c1, c2, c3, c4, c5, c6] := by
  obtain ⟨l⟩ := cs
  match l, h with
  | [c0, c1, c2, c3, c4, c5, c6], _ => exact ⟨c0, c1, c2, c3, c4, c5, c6, rfl⟩

theorem stopFields {fs : Array Field} (h : Try.prog.underlying 38 = some (.struct fs)) : fs.size = 5 ∧ ∀ i, i < 5 → ∃ f, fs[i]? = some f ∧ f.offset = i ∧ Try.prog.cellsOf f.type = 1 ∧ Try.prog.underlying f.type = some (.int .i64) := by
  have hc : Try.prog.cellsOf 3 = 1 := by kernel_rfl
  rw [Try.underlying38] at h
  cases h
  refine ⟨rfl, fun i hi => ?_⟩
  match i, hi with
  | 0, _ => exact ⟨_, rfl, rfl, hc, Try.underlying3⟩
  | 1, _ => exact ⟨_, rfl, rfl, hc, Try.underlying3⟩
  | 2, _ => exact ⟨_, rfl, rfl, hc, Try.underlying3⟩
  | 3, _ => exact ⟨_, rfl, rfl, hc, Try.underlying3⟩
  | 4, _ => exact ⟨_, rfl, rfl, hc, Try.underlying3⟩
theorem roadFields {fs : Array Field} (h : Try.prog.underlying 40 = some (.struct fs)) : fs.size = 3 ∧ ∀ i, i < 3 → ∃ f, fs[i]? = some f ∧ f.offset = i ∧ Try.prog.cellsOf f.type = 1 ∧ Try.prog.underlying f.type = some (.int .i64) := by
  have hc : Try.prog.cellsOf 3 = 1 := by kernel_rfl
  rw [Try.underlying40] at h
  cases h
  refine ⟨rfl, fun i hi => ?_⟩
  match i, hi with
  | 0, _ => exact ⟨_, rfl, rfl, hc, Try.underlying3⟩
  | 1, _ => exact ⟨_, rfl, rfl, hc, Try.underlying3⟩
  | 2, _ => exact ⟨_, rfl, rfl, hc, Try.underlying3⟩
/- an instance that came in -/
set_option maxRecDepth 100000 in
theorem open_inst {H : Type} {enc : TypeId × Value → H} {W : World} {base : Nat} {v : Value} {d : DataW H} {p : List MemPlace} (hv : Value.okWide Try.prog W .any base 25 v) (h : DataW.Trod enc Try.prog W 0 (fun _ => true) true 25 v d p) :
    ∃ (X : Nat → Int) (S T : Nat → Nat → Int) (aS aR : Option Addr) (n m cn cm : Nat), v = .agg #[.int .i64 (X 0), .int .i64 (X 1), .int .i64 (X 2), .int .i64 (X 3), .int .i64 (X 4), .slice aS n cn, .slice aR m cm] ∧
      (∀ i, i < 5 → -9223372036854775808 ≤ X i ∧ X i ≤ 9223372036854775807) ∧ n ≤ 9223372036854775807 ∧ m ≤ 9223372036854775807 ∧ Came W aS n 5 S ∧ Came W aR m 3 T := by
  obtain ⟨cs, rfl, hsz⟩ := okWide_struct Try.underlying25 hv
  have hC : Try.prog.cellsOf 25 = 7 := by kernel_rfl
  have hc1 : Try.prog.cellsOf 3 = 1 := by kernel_rfl
  have hc2 : Try.prog.cellsOf 22 = 1 := by kernel_rfl
  have hc3 : Try.prog.cellsOf 23 = 1 := by kernel_rfl
  obtain ⟨c0, c1, c2, c3, c4, c5, c6, rfl⟩ := array7 (hsz.trans hC)
  obtain ⟨fuel, hf⟩ := h
  obtain ⟨xs, n, _, _, _, hxl, hfl⟩ := DataW.trod_struct Try.underlying25 hf
  have hx : ∀ i, i < 7 → ∃ y, xs[i]? = some y := fun i hi => ⟨_, List.getElem?_eq_getElem (by rw [hxl]; exact hi)⟩
  obtain ⟨y0, e0⟩ := hx 0 (by omega)
  obtain ⟨y1, e1⟩ := hx 1 (by omega)
  obtain ⟨y2, e2⟩ := hx 2 (by omega)
  obtain ⟨y3, e3⟩ := hx 3 (by omega)
  obtain ⟨y4, e4⟩ := hx 4 (by omega)
  obtain ⟨y5, e5⟩ := hx 5 (by omega)
  obtain ⟨y6, e6⟩ := hx 6 (by omega)
  have g0 : DataW.trod enc Try.prog W 0 (fun _ => true) true n 3 [c0] = some y0 := by simpa [hc1, Value.cells] using (hfl 0 _ rfl).trans e0
  have g1 : DataW.trod enc Try.prog W 0 (fun _ => true) true n 3 [c1] = some y1 := by simpa [hc1, Value.cells] using (hfl 1 _ rfl).trans e1
  have g2 : DataW.trod enc Try.prog W 0 (fun _ => true) true n 3 [c2] = some y2 := by simpa [hc1, Value.cells] using (hfl 2 _ rfl).trans e2
  have g3 : DataW.trod enc Try.prog W 0 (fun _ => true) true n 3 [c3] = some y3 := by simpa [hc1, Value.cells] using (hfl 3 _ rfl).trans e3
  have g4 : DataW.trod enc Try.prog W 0 (fun _ => true) true n 3 [c4] = some y4 := by simpa [hc1, Value.cells] using (hfl 4 _ rfl).trans e4
  have g5 : DataW.trod enc Try.prog W 0 (fun _ => true) true n 22 [c5] = some y5 := by simpa [hc2, Value.cells] using (hfl 5 _ rfl).trans e5
  have g6 : DataW.trod enc Try.prog W 0 (fun _ => true) true n 23 [c6] = some y6 := by simpa [hc3, Value.cells] using (hfl 6 _ rfl).trans e6
  obtain ⟨z0, q0, _, w0⟩ := DataW.trod_int Try.underlying3 g0
  obtain ⟨z1, q1, _, w1⟩ := DataW.trod_int Try.underlying3 g1
  obtain ⟨z2, q2, _, w2⟩ := DataW.trod_int Try.underlying3 g2
  obtain ⟨z3, q3, _, w3⟩ := DataW.trod_int Try.underlying3 g3
  obtain ⟨z4, q4, _, w4⟩ := DataW.trod_int Try.underlying3 g4
  cases q0; cases q1; cases q2; cases q3; cases q4
  obtain ⟨aS, len, cap, S, rfl, hl, hS⟩ := came_of (c := c5) Try.underlying22 Try.underlying38 (k := 5) (Nat.le_of_eq (stopFields Try.underlying38).1.symm) (by kernel_rfl) (stopFields Try.underlying38).2 (by omega) g5
  obtain ⟨aR, len', cap', T, rfl, hl', hT⟩ := came_of (c := c6) Try.underlying23 Try.underlying40 (k := 3) (Nat.le_of_eq (roadFields Try.underlying40).1.symm) (by kernel_rfl) (roadFields Try.underlying40).2 (by omega) g6
  refine ⟨fun i => [z0, z1, z2, z3, z4].getD i 0, S, T, aS, aR, len, len', cap, cap', rfl, fun i hi => ?_, hl, hl', hS, hT⟩
  match i, hi with
  | 0, _ => exact wf_range w0
  | 1, _ => exact wf_range w1
  | 2, _ => exact wf_range w2
  | 3, _ => exact wf_range w3
  | 4, _ => exact wf_range w4
end Go.Proofs.Ytebinaopncclgab
namespace Go.Proofs.Ytebinaopncclgab
open Go.RowKit Go.IntWalk

theorem drv_pl {r : Rd} (hok : RdOk r) {l : List UInt8} {C : Int} {S : List Int} (h : drvS r (siteD r) l = some (C, S)) : PlanQ (insOf r (siteD r)) (routesN l) ∧ C = costQ (insOf r (siteD r)) (routesN l) := by
  have hj := (drv_judge hok).1 C S h
  obtain ⟨_, hq⟩ := (judge_iff (D := siteD r) hok).1 ⟨C, S, hj⟩
  exact ⟨hq, judge_cost hj⟩
theorem drv_of {r : Rd} (hok : RdOk r) {l : List UInt8} {c : Int} {S : List Int} (h : judgeS r (siteD r) l = (c, some S, 0)) : drvS r (siteD r) l = some (c, S) := by
  obtain ⟨h1, h2⟩ := drv_judge (D := siteD r) (l := l) hok
  cases hd : drvS r (siteD r) l with
  | none => obtain ⟨e, he, hj⟩ := h2 hd; rw [hj] at h; cases h
  | some cs => obtain ⟨C, S'⟩ := cs; have hj := h1 C S' hd; rw [hj] at h; cases h; rfl
theorem sound_none {r : Rd} (hok : RdOk r) {l t : List UInt8} (h : checkS r noneB t = (0, 0)) : drvS r (siteD r) l = none := by
  cases hd : drvS r (siteD r) l with
  | none => rfl
  | some cs => obtain ⟨C, S⟩ := cs; exact (check_none hok h (drv_pl hok hd).1).elim
theorem sound_claim {r : Rd} (hok : RdOk r) {l t : List UInt8} (hl : l ≠ noneB) (h : checkS r l t = (0, 0)) : ∃ c S, drvS r (siteD r) l = some (c, S) ∧ ∀ l2 C S2, drvS r (siteD r) l2 = some (C, S2) → c ≤ C := by
  obtain ⟨c, S, hj, hk⟩ := check_claim hok hl h
  refine ⟨c, S, drv_of hok hj, fun l2 C S2 hd => ?_⟩
  obtain ⟨h1, h2⟩ := drv_pl hok hd
  rw [h2]; exact hk _ h1
theorem shows_bool (R : Rd) (l t : ByteArray) (hok : RdOk R) (hl : l.size ≤ 2000000) (ht : t.size ≤ 2000000) : ∃ b : Bool, (b = true ↔ checkS R l.data.toList t.data.toList = (0, 0)) ∧ ∀ W, Calls Try.prog 8 #[.string ⟨(textL R).toArray⟩, .string l, .string t] W fun e w' => e = .returned (.bool b) ∧ Below W.heap.size W w' := by
  have hp : parseS (⟨(textL R).toArray⟩ : ByteArray).data.toList = (R, 0, 0) := by show parseS (textL R).toArray.toList = _; simpa using parse_text hok
  have hs : (⟨(textL R).toArray⟩ : ByteArray).size ≤ maxLen := by have := textL_length hok; show (textL R).toArray.size ≤ _; unfold maxLen; simp; omega
  exact ⟨_, by simp, fun W => shows_ok _ l t R W hs (by unfold maxLen; omega) ht hp hok⟩
theorem shows_known (W : World) : Calls Try.prog 8 #[.string ⟨exB.toArray⟩, .string ⟨#[49]⟩, .string ⟨exT.toArray⟩] W fun e w' => e = .returned (.bool true) ∧ Below W.heap.size W w' := by
  have hp : parseS (⟨exB.toArray⟩ : ByteArray).data.toList = (rE, 0, 0) := by
    show parseS exB.toArray.toList = _
    rw [← exB_text]; simpa using parse_text rE_ok
  have h := shows_ok ⟨exB.toArray⟩ ⟨#[49]⟩ ⟨exT.toArray⟩ rE W (by unfold maxLen; decide) (by unfold maxLen; decide) (by decide) hp rE_ok
  have e1 : checkS rE (⟨#[49]⟩ : ByteArray).data.toList (⟨exT.toArray⟩ : ByteArray).data.toList = (0, 0) := by
    show checkS rE [49] exT.toArray.toList = _
    rw [List.toList_toArray]; exact exB_check
  refine h.mono fun e w' hh => ?_
  refine ⟨?_, hh.2⟩
  rw [hh.1]; simp [e1]

set_option maxRecDepth 100000 in
set_option maxHeartbeats 8000000 in
theorem sound_walk (X : Nat → Int) (S T : Nat → Nat → Int) (aS aR : Option Addr) (n m cn cm : Nat) (s1 s2 s3 : ByteArray) (w : World) (hX : ∀ i, i < 5 → -9223372036854775808 ≤ X i ∧ X i ≤ 9223372036854775807) (hn : n ≤ 9223372036854775807) (hm : m ≤ 9223372036854775807)
    (hS : Came w aS n 5 S) (hT : Came w aR m 3 T) (hz1 : s1.size ≤ 2000000) (hz2 : s2.size ≤ 2000000) (hz3 : s3.size ≤ 2000000) :
    Calls Try.prog 3 #[.agg #[.int .i64 (X 0), .int .i64 (X 1), .int .i64 (X 2), .int .i64 (X 3), .int .i64 (X 4), .slice aS n cn, .slice aR m cm], .string s1, .string s2, .string s3] w fun e w' => e = .returned (.bool true) ∧ Below w.heap.size w w' := by
  have hcB := fun W (hW : Below w.heap.size w W) => Bent_any X S T aS aR n m cn cm W hX hn hm (came_below hS hW) (came_below hT hW)
  have HCB := hide hcB
  have HOK := hide (bentR_ok X S T n m)
  clear hcB hX hS hT
  generalize bentR X S T n m = R at *
  have hns := HOK.out.nstops
  have HDR : Hid (∀ (s : ByteArray) (vs vr vw : Value) (W : World), s.size ≤ 2000000 → StR W vs R → SqR W vw (R.stops.length + 1) (siteD R) → (∃ ao n c, vr = .slice ao n c) → Calls Try.prog 7 #[inst R vs vr, vw, .string s] W (DrvLeft W R.stops.length (drvS R (siteD R) s.data.toList))) := fun s vs vr vw W h0 h1 h2 h3 => driven_any R (siteD R) s vs vr vw W HOK.out h1 h2 (site_range HOK.out) (by omega) h3
  obtain ⟨bn, hbn, hcn⟩ := shows_bool R ⟨#[110, 111, 110, 101]⟩ s3 HOK.out (by decide) hz3
  obtain ⟨bc, hbc, hcc⟩ := shows_bool R s1 s3 HOK.out hz1 hz3
  obtain ⟨b3, hb3, hc3⟩ := shows_bool R ⟨#[110, 111, 110, 101]⟩ ⟨#[]⟩ HOK.out (by decide) (by decide)
  obtain ⟨b4, hb4, hc4⟩ := shows_bool R s1 ⟨#[]⟩ HOK.out hz1 (by decide)
  obtain rfl : b3 = false := by cases b3 with | false => rfl | true => exact absurd (hb3.1 rfl) (check_void _ _)
  obtain rfl : b4 = false := by cases b4 with | false => rfl | true => exact absurd (hb4.1 rfl) (check_void _ _)
  have HCN := hid hcn
  have HCC := hid hcc
  have HC3 := hid hc3
  have HC4 := hid hc4
  have HF1 : Hid (bn = true → ∀ l, drvS R (siteD R) l = none) := fun h l => sound_none HOK.out (hbn.1 h)
  have HF2 : Hid (bc = true → s1.data.toList ≠ noneB → ∃ c S, drvS R (siteD R) s1.data.toList = some (c, S) ∧ ∀ l2 C S2, drvS R (siteD R) l2 = some (C, S2) → c ≤ C) := fun h hl => sound_claim HOK.out hl (hbc.1 h)
  have HD2 : Hid (∀ (vs vr vw : Value) (W : World), StR W vs R → SqR W vw (R.stops.length + 1) (siteD R) → (∃ ao n c, vr = .slice ao n c) → Calls Try.prog 7 #[inst R vs vr, vw, .string s2] W (DrvLeft W R.stops.length (drvS R (siteD R) s2.data.toList))) := fun vs vr vw W => HDR.out s2 vs vr vw W hz2
  clear hbn hbc hb3 hb4 hcn hcc hc3 hc4
  have HV2 : Hid (drvS R (siteD R) s2.data.toList = drvS R (siteD R) s2.data.toList) := rfl
  go_enter Try.func3, Try.ntmps3
  go_wp2_with fail
  refine (HCB.out _ (below1 w _)).mono ?_
  rintro e1 w1 ⟨vs, vr, rfl, hos, hor, hb1⟩
  obtain ⟨aos, caps, rfl, has, hsn⟩ := own_val hos
  obtain ⟨aor, capr, rfl, har, hrn⟩ := own_val hor
  unfold inst
  have HB1 : Hid (Below w.heap.size w w1) := (below1 w _).trans (hb1.mono (by simp))
  have HOS := hide (own_base hos (show w.heap.size ≤ _ by simp))
  have HOR := hide (own_base hor (show w.heap.size ≤ _ by simp))
  have hbz := HB1.out.size
  have HY : Hid (YIs (w1.alloc (.cells (yCells R (.slice aos R.stops.length caps) (.slice aor R.roads.length capr)) 25)) w1.heap.size w.heap.size R (.slice aos R.stops.length caps) (.slice aor R.roads.length capr)) := y_new HOS.out HOR.out
  have HWY : Hid (Below w.heap.size w (w1.alloc (.cells (yCells R (.slice aos R.stops.length caps) (.slice aor R.roads.length capr)) 25))) := HB1.out.alloc hbz _
  clear hos hor hb1 has hsn har hrn HCB HOS HOR
  have HT3 := hid (text0_any w.heap.size w.heap.size R (.slice aos R.stops.length caps) (.slice aor R.roads.length capr) _ HOK.out.nice HY.out.stops HY.out.roads)
  unfold inst yCells at HT3
  go_wp2_with fail
  refine HT3.out.mono ?_
  rintro e2 w2 ⟨rfl, hb2⟩
  have HY2 := hide (HY.out.below hb2)
  have HW2 : Hid (Below w.heap.size w w2) := HWY.out.trans (hb2.mono HWY.out.size)
  obtain ⟨y0, y1, y2, y3, y4, y5, y6, yf, yl⟩ := y_cells HY2.out
  clear hb2 HT3 HY HWY
  have HKW := hid (kways_any w.heap.size R (.slice aos R.stops.length caps) (.slice aor R.roads.length capr) _ HOK.out HY2.out.stops HY2.out.roads)
  unfold inst at HKW
  go_wp2_with fail
  refine HKW.out.mono ?_
  rintro e5 w5 ⟨v5, rfl, hg5, hb5⟩
  have HSQ5 := hid (hg5.sq (by omega))
  have HY5 := hide (HY2.out.below hb5)
  have HW5 : Hid (Below w.heap.size w w5) := HW2.out.trans (hb5.mono HW2.out.size)
  clear y0 y1 y2 y3 y4 y5 y6 yf yl
  obtain ⟨y0, y1, y2, y3, y4, y5, y6, yf, yl⟩ := y_cells HY5.out
  obtain ⟨g5, rfl, _⟩ := hg5
  have HCD := hid (HD2.out (.slice aos R.stops.length caps) (.slice aor R.roads.length capr) _ w5 (StR.own HY5.out.stops (fun s hs => (HOK.out.nice.stops s hs).1)) HSQ5.out ⟨_, _, _, rfl⟩)
  unfold inst at HCD
  have HVQ : Hid (∀ C S, drvS R (siteD R) s2.data.toList = some (C, S) → bn = false ∧ (bc = true → s1.data.toList ≠ noneB → ∃ c S', drvS R (siteD R) s1.data.toList = some (c, S') ∧ c ≤ C)) := fun C S h => by
    refine ⟨?_, fun h1 h2 => ?_⟩
    · cases bn with
      | false => rfl
      | true => have := HF1.out rfl s2.data.toList; rw [h] at this; cases this
    · obtain ⟨c, S', k1, k2⟩ := HF2.out h1 h2
      exact ⟨c, S', k1, k2 _ C S h⟩
  have HVN : Hid (bc = true → s1.data.toList ≠ noneB → bn = false ∧ ∃ c S', drvS R (siteD R) s1.data.toList = some (c, S')) := fun h1 h2 => by
    obtain ⟨c, S', k1, k2⟩ := HF2.out h1 h2
    refine ⟨?_, c, S', k1⟩
    cases bn with
    | false => rfl
    | true => have := HF1.out rfl s1.data.toList; rw [k1] at this; cases this
  have HZN : Hid (s1.data.toList = noneB → (s1.toList == [110, 111, 110, 101]) = true) := fun h => by rw [tn_list, h]; rfl
  have HZY : Hid (s1.data.toList ≠ noneB → (s1.toList == [110, 111, 110, 101]) = false) := fun h => by rw [tn_list]; exact beq_eq_false_iff_ne.2 h
  generalize drvS R (siteD R) s2.data.toList = V2 at *
  clear hb5 HKW HY2 HW2 HD2 HF1 HF2 HV2
  cases V2 with
  | none =>
    go_wp2_with fail
    refine HCD.out.mono ?_
    rintro e6 w6 ⟨he6, _, hb6⟩
    have he6 := he6 rfl
    subst he6
    have HW6 : Hid (Below w.heap.size w w6) := HW5.out.trans (hb6.mono HW5.out.size)
    have HY6 := hide (HY5.out.below hb6)
    have HSQ6 := hid (HSQ5.out.below hb6)
    clear y0 y1 y2 y3 y4 y5 y6 yf yl
    obtain ⟨y0, y1, y2, y3, y4, y5, y6, yf, yl⟩ := y_cells HY6.out
    clear hb6 HCD HY5 HW5 HSQ5
    go_wp2_with fail
    refine (HCN.out _).mono ?_
    rintro e7 w7 ⟨rfl, hb7⟩
    have HW7 : Hid (Below w.heap.size w w7) := HW6.out.trans (hb7.mono HW6.out.size)
    have HY7 := hide (HY6.out.below hb7)
    have HSQ7 := hid (HSQ6.out.below hb7)
    clear hb7 HW6 HY6 HSQ6
    clear y0 y1 y2 y3 y4 y5 y6 yf yl
    obtain ⟨y0, y1, y2, y3, y4, y5, y6, yf, yl⟩ := y_cells HY7.out
    go_wp2_with fail
    refine (shows_known _).mono ?_
    rintro e8 w8 ⟨rfl, hb8⟩
    have HW8 : Hid (Below w.heap.size w w8) := HW7.out.trans (hb8.mono HW7.out.size)
    have HY8 := hide (HY7.out.below hb8)
    have HSQ8 := hid (HSQ7.out.below hb8)
    clear hb8 HW7 HY7 HSQ7
    clear y0 y1 y2 y3 y4 y5 y6 yf yl
    obtain ⟨y0, y1, y2, y3, y4, y5, y6, yf, yl⟩ := y_cells HY8.out
    cases bn with
    | true =>
      go_wp2_with fail
      refine (HC3.out _).mono ?_
      rintro e9 w9 ⟨rfl, hb9⟩
      have HW9 : Hid (Below w.heap.size w w9) := HW8.out.trans (hb9.mono HW8.out.size)
      have HY9 := hide (HY8.out.below hb9)
      have HSQ9 := hid (HSQ8.out.below hb9)
      clear hb9 HW8 HY8 HSQ8
      clear y0 y1 y2 y3 y4 y5 y6 yf yl
      obtain ⟨y0, y1, y2, y3, y4, y5, y6, yf, yl⟩ := y_cells HY9.out
      go_wp2_with fail
      refine (HC4.out _).mono ?_
      rintro e10 w10 ⟨rfl, hb10⟩
      have HW10 : Hid (Below w.heap.size w w10) := HW9.out.trans (hb10.mono HW9.out.size)
      have HY10 := hide (HY9.out.below hb10)
      have HSQ10 := hid (HSQ9.out.below hb10)
      clear hb10 HW9 HY9 HSQ9
      clear y0 y1 y2 y3 y4 y5 y6 yf yl
      obtain ⟨y0, y1, y2, y3, y4, y5, y6, yf, yl⟩ := y_cells HY10.out
      go_wp2_with fail
      refine (HCC.out _).mono ?_
      rintro e11 w11 ⟨rfl, hb11⟩
      have HW11 : Hid (Below w.heap.size w w11) := HW10.out.trans (hb11.mono HW10.out.size)
      have HY11 := hide (HY10.out.below hb11)
      have HSQ11 := hid (HSQ10.out.below hb11)
      clear hb11 HW10 HY10 HSQ10
      clear y0 y1 y2 y3 y4 y5 y6 yf yl
      obtain ⟨y0, y1, y2, y3, y4, y5, y6, yf, yl⟩ := y_cells HY11.out
      cases bc with
      | false =>
        go_wp2_with fail
        go_ret
        exact ⟨rfl, HW11.out⟩
      | true =>
        by_cases hq : s1.data.toList = noneB
        · have z2 := HZN.out hq
          clear hq
          go_wp2_with fail
          go_ret
          exact ⟨rfl, HW11.out⟩
        · obtain ⟨h, _⟩ := HVN.out rfl hq
          cases h
    | false =>
      go_wp2_with fail
      refine (HC3.out _).mono ?_
      rintro e9 w9 ⟨rfl, hb9⟩
      have HW9 : Hid (Below w.heap.size w w9) := HW8.out.trans (hb9.mono HW8.out.size)
      have HY9 := hide (HY8.out.below hb9)
      have HSQ9 := hid (HSQ8.out.below hb9)
      clear hb9 HW8 HY8 HSQ8
      clear y0 y1 y2 y3 y4 y5 y6 yf yl
      obtain ⟨y0, y1, y2, y3, y4, y5, y6, yf, yl⟩ := y_cells HY9.out
      go_wp2_with fail
      refine (HC4.out _).mono ?_
      rintro e10 w10 ⟨rfl, hb10⟩
      have HW10 : Hid (Below w.heap.size w w10) := HW9.out.trans (hb10.mono HW9.out.size)
      have HY10 := hide (HY9.out.below hb10)
      have HSQ10 := hid (HSQ9.out.below hb10)
      clear hb10 HW9 HY9 HSQ9
      clear y0 y1 y2 y3 y4 y5 y6 yf yl
      obtain ⟨y0, y1, y2, y3, y4, y5, y6, yf, yl⟩ := y_cells HY10.out
      go_wp2_with fail
      refine (HCC.out _).mono ?_
      rintro e11 w11 ⟨rfl, hb11⟩
      have HW11 : Hid (Below w.heap.size w w11) := HW10.out.trans (hb11.mono HW10.out.size)
      have HY11 := hide (HY10.out.below hb11)
      have HSQ11 := hid (HSQ10.out.below hb11)
      clear hb11 HW10 HY10 HSQ10
      clear y0 y1 y2 y3 y4 y5 y6 yf yl
      obtain ⟨y0, y1, y2, y3, y4, y5, y6, yf, yl⟩ := y_cells HY11.out
      cases bc with
      | false =>
        go_wp2_with fail
        go_ret
        exact ⟨rfl, HW11.out⟩
      | true =>
        by_cases hq : s1.data.toList = noneB
        · have z2 := HZN.out hq
          clear hq
          go_wp2_with fail
          go_ret
          exact ⟨rfl, HW11.out⟩
        · obtain ⟨_, c1, S1, hd1⟩ := HVN.out rfl hq
          have z2 := HZY.out hq
          have HCE := hid (HDR.out s1 (.slice aos R.stops.length caps) (.slice aor R.roads.length capr) _ w11 hz1 (StR.own HY11.out.stops (fun s hs => (HOK.out.nice.stops s hs).1)) HSQ11.out ⟨_, _, _, rfl⟩)
          unfold inst at HCE
          rw [hd1] at HCE
          clear hq hd1 HZN HZY HVN HVQ
          go_wp2_with fail
          refine HCE.out.mono ?_
          rintro e12 w12 ⟨_, hd12, hb12⟩
          obtain ⟨v12, he12, ho12, _⟩ := hd12 c1 S1 rfl
          subst he12
          obtain ⟨a12, c12, rfl, _, _⟩ := own_val ho12
          have HW12 : Hid (Below w.heap.size w w12) := HW11.out.trans (hb12.mono HW11.out.size)
          clear y0 y1 y2 y3 y4 y5 y6 yf yl hb12 hd12 ho12 HCE
          go_wp2_with fail
          go_ret
          exact ⟨rfl, HW12.out⟩
  | some cs =>
    obtain ⟨C, Sv⟩ := cs
    obtain rfl := (HVQ.out C Sv rfl).1
    go_wp2_with fail
    refine HCD.out.mono ?_
    rintro e6 w6 ⟨_, hd6, hb6⟩
    obtain ⟨v6, he6, ho6, _⟩ := hd6 C Sv rfl
    subst he6
    obtain ⟨a6, c6, rfl, _, _⟩ := own_val ho6
    have HW6 : Hid (Below w.heap.size w w6) := HW5.out.trans (hb6.mono HW5.out.size)
    have HY6 := hide (HY5.out.below hb6)
    have HSQ6 := hid (HSQ5.out.below hb6)
    clear y0 y1 y2 y3 y4 y5 y6 yf yl
    obtain ⟨y0, y1, y2, y3, y4, y5, y6, yf, yl⟩ := y_cells HY6.out
    clear hb6 HCD HY5 HW5 HSQ5 hd6 ho6
    go_wp2_with fail
    refine (HCN.out _).mono ?_
    rintro e7 w7 ⟨rfl, hb7⟩
    have HW7 : Hid (Below w.heap.size w w7) := HW6.out.trans (hb7.mono HW6.out.size)
    have HY7 := hide (HY6.out.below hb7)
    have HSQ7 := hid (HSQ6.out.below hb7)
    clear hb7 HW6 HY6 HSQ6
    clear y0 y1 y2 y3 y4 y5 y6 yf yl
    obtain ⟨y0, y1, y2, y3, y4, y5, y6, yf, yl⟩ := y_cells HY7.out
    go_wp2_with fail
    refine (shows_known _).mono ?_
    rintro e8 w8 ⟨rfl, hb8⟩
    have HW8 : Hid (Below w.heap.size w w8) := HW7.out.trans (hb8.mono HW7.out.size)
    have HY8 := hide (HY7.out.below hb8)
    have HSQ8 := hid (HSQ7.out.below hb8)
    clear hb8 HW7 HY7 HSQ7
    clear y0 y1 y2 y3 y4 y5 y6 yf yl
    obtain ⟨y0, y1, y2, y3, y4, y5, y6, yf, yl⟩ := y_cells HY8.out
    go_wp2_with fail
    refine (HC3.out _).mono ?_
    rintro e9 w9 ⟨rfl, hb9⟩
    have HW9 : Hid (Below w.heap.size w w9) := HW8.out.trans (hb9.mono HW8.out.size)
    have HY9 := hide (HY8.out.below hb9)
    have HSQ9 := hid (HSQ8.out.below hb9)
    clear hb9 HW8 HY8 HSQ8
    clear y0 y1 y2 y3 y4 y5 y6 yf yl
    obtain ⟨y0, y1, y2, y3, y4, y5, y6, yf, yl⟩ := y_cells HY9.out
    go_wp2_with fail
    refine (HC4.out _).mono ?_
    rintro e10 w10 ⟨rfl, hb10⟩
    have HW10 : Hid (Below w.heap.size w w10) := HW9.out.trans (hb10.mono HW9.out.size)
    have HY10 := hide (HY9.out.below hb10)
    have HSQ10 := hid (HSQ9.out.below hb10)
    clear hb10 HW9 HY9 HSQ9
    clear y0 y1 y2 y3 y4 y5 y6 yf yl
    obtain ⟨y0, y1, y2, y3, y4, y5, y6, yf, yl⟩ := y_cells HY10.out
    go_wp2_with fail
    refine (HCC.out _).mono ?_
    rintro e11 w11 ⟨rfl, hb11⟩
    have HW11 : Hid (Below w.heap.size w w11) := HW10.out.trans (hb11.mono HW10.out.size)
    have HY11 := hide (HY10.out.below hb11)
    have HSQ11 := hid (HSQ10.out.below hb11)
    clear hb11 HW10 HY10 HSQ10
    clear y0 y1 y2 y3 y4 y5 y6 yf yl
    obtain ⟨y0, y1, y2, y3, y4, y5, y6, yf, yl⟩ := y_cells HY11.out
    cases bc with
    | false =>
      go_wp2_with fail
      go_ret
      exact ⟨rfl, HW11.out⟩
    | true =>
      by_cases hq : s1.data.toList = noneB
      · have z2 := HZN.out hq
        clear hq
        go_wp2_with fail
        go_ret
        exact ⟨rfl, HW11.out⟩
      · obtain ⟨c1, S1, hd1, hle⟩ := (HVQ.out C Sv rfl).2 rfl hq
        have hle2 : decide (c1 ≤ C) = true := by simpa using hle
        have z2 := HZY.out hq
        have HCE := hid (HDR.out s1 (.slice aos R.stops.length caps) (.slice aor R.roads.length capr) _ w11 hz1 (StR.own HY11.out.stops (fun s hs => (HOK.out.nice.stops s hs).1)) HSQ11.out ⟨_, _, _, rfl⟩)
        unfold inst at HCE
        rw [hd1] at HCE
        clear hq hd1 HZN HZY HVN HVQ
        go_wp2_with fail
        refine HCE.out.mono ?_
        rintro e12 w12 ⟨_, hd12, hb12⟩
        obtain ⟨v12, he12, ho12, _⟩ := hd12 c1 S1 rfl
        subst he12
        obtain ⟨a12, c12, rfl, _, _⟩ := own_val ho12
        have HW12 : Hid (Below w.heap.size w w12) := HW11.out.trans (hb12.mono HW11.out.size)
        clear y0 y1 y2 y3 y4 y5 y6 yf yl hb12 hd12 ho12 HCE
        go_wp2_with fail
        go_ret
        exact ⟨rfl, HW12.out⟩
end Go.Proofs.Ytebinaopncclgab
