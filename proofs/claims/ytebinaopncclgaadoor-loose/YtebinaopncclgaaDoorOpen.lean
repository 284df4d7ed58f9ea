/- An instance that comes in is opened. -/
import Derived.Test.YtebinaopncclgaaDoorBent
import Derived.ProofKit
import Derived.OpenShut
import Derived.ChangeOld
import Derived.Below
import Derived.Deep.Slices
namespace Go.Proofs.YtebinaopncclgaaDoor
open Go.ChangeShapes Go.WideShapes Go.ChangeAt Go.RowKit Go.Deep

theorem own : ownKnob Tryd.prog.godebug = none := by kernel_rfl
theorem laidOut : laidOutB Tryd.prog = true := by kernel_rfl

/- a struct whose fields are ints, one cell each -/
theorem ints_of {H : Type} {enc : TypeId × Value → H} {P : Program} {w : World} {base : Nat} {spare : Nat → Bool} {held : Bool} {e : TypeId} {fs : Array Field} {fuel k : Nat} {cs : List Value} {x : DataW H × List MemPlace}
    (he : P.underlying e = some (.struct fs)) (hk : k ≤ fs.size) (hf : ∀ i, i < k → ∃ f, fs[i]? = some f ∧ f.offset = i ∧ P.cellsOf f.type = 1 ∧ P.underlying f.type = some (.int .i64))
    (h : DataW.trod enc P w base spare held fuel e cs = some x) : ∀ i, i < k → ∃ z, cs[i]? = some (.int .i64 z) ∧ (Lit.int .i64 z).wf = true := by
  intro i hi
  obtain ⟨xs, n, _, _, _, hxl, hfl⟩ := DataW.trod_struct he h
  obtain ⟨f, hfi, ho, hc, hu⟩ := hf i hi
  have g := hfl i f hfi
  rw [ho, hc] at g
  have hxi : i < xs.length := by omega
  rw [List.getElem?_eq_getElem hxi] at g
  obtain ⟨z, hz, _, hw⟩ := DataW.trod_int hu g
  refine ⟨z, ?_, hw⟩
  have := congrArg (fun l => l[0]?) hz
  simpa using this
theorem wf_range {z : Int} (h : (Lit.int .i64 z).wf = true) : -9223372036854775808 ≤ z ∧ z ≤ 9223372036854775807 := by
  simp [Lit.wf, IntKind.min, IntKind.max, IntKind.signed, IntKind.bits] at h
  exact ⟨by omega, by omega⟩
/- a list of such structs that came in -/
theorem came_of {H : Type} {enc : TypeId × Value → H} {P : Program} {w : World} {held : Bool} {t e : TypeId} {fs : Array Field} {fuel k : Nat} {c : Value} {x : DataW H × List MemPlace}
    (ht : P.underlying t = some (.slice e)) (he : P.underlying e = some (.struct fs)) (hk : k ≤ fs.size) (hce : P.cellsOf e = k) (hf : ∀ i, i < k → ∃ f, fs[i]? = some f ∧ f.offset = i ∧ P.cellsOf f.type = 1 ∧ P.underlying f.type = some (.int .i64)) (hk0 : 0 < k)
    (h : DataW.trod enc P w 0 (fun _ => true) held fuel t [c] = some x) :
    ∃ ao len cap S, c = .slice ao len cap ∧ len ≤ 9223372036854775807 ∧ Came w ao len k S := by
  rcases open_slice ht h with ⟨hcs, _⟩ | ⟨a, len, cap, m, n, D, Pl, hcs, _, hl, hm, hmm, _, hx⟩
  · cases hcs
    exact ⟨none, 0, 0, fun _ _ => 0, rfl, by omega, fun h => absurd h (by omega)⟩
  · cases hcs
    simp only [if_true] at hmm
    subst hmm
    have each : ∀ i, i < len → ∃ s : Nat → Int, ∀ j, j < k → w.cell? (a.add (i * k + j)) = some (.int .i64 (s j)) ∧ (Lit.int .i64 (s j)).wf = true := by
      intro i hi
      obtain ⟨cs', h1, h2⟩ := hx i (by omega)
      rw [hce] at h1
      obtain ⟨_, hlen, hcell⟩ := World.cells?_some h1
      have hz := ints_of he hk hf h2
      obtain ⟨s, hs⟩ := choose_lt (α := Int) hz
      refine ⟨s, fun j hj => ⟨?_, (hs j hj).2⟩⟩
      have e1 := hcell j (by omega)
      rw [add_add] at e1
      rw [e1]; exact (hs j hj).1
    obtain ⟨S, hS⟩ := choose_lt (α := Nat → Int) each
    refine ⟨some a, len, _, S, rfl, by unfold maxLen at hm; omega, fun hn => ?_⟩
    obtain ⟨b, off, spot⟩ := a
    have hc0 := (hS 0 hn 0 hk0).1
    have hspot : spot = none := by simpa [Addr.add] using World.cell?_spot hc0
    subst hspot
    refine ⟨b, off, rfl, ?_, fun i j hi hj => ?_⟩
    · rw [Addr.add_lit] at hc0; exact World.block_lt_of_cell? w _ hc0
    · have h1 := hS i hi j hj
      refine ⟨?_, wf_range h1.2⟩
      have h2 := h1.1
      rw [Addr.add_lit, ← Nat.add_assoc] at h2
      exact h2
theorem array7 {α : Type} {cs : Array α} (h : cs.size = 7) : ∃ c0 c1 c2 c3 c4 c5 c6, cs = #[c0, c1, c2, c3, c4, c5, c6] := by
  obtain ⟨l⟩ := cs
  match l, h with
  | [c0, c1, c2, c3, c4, c5, c6], _ => exact ⟨c0, c1, c2, c3, c4, c5, c6, rfl⟩

theorem stopFields {fs : Array Field} (h : Tryd.prog.underlying 37 = some (.struct fs)) : fs.size = 5 ∧ ∀ i, i < 5 → ∃ f, fs[i]? = some f ∧ f.offset = i ∧ Tryd.prog.cellsOf f.type = 1 ∧ Tryd.prog.underlying f.type = some (.int .i64) := by
  have hc : Tryd.prog.cellsOf 3 = 1 := by kernel_rfl
  rw [Tryd.underlying37] at h
  cases h
  refine ⟨rfl, fun i hi => ?_⟩
  match i, hi with
  | 0, _ => exact ⟨_, rfl, rfl, hc, Tryd.underlying3⟩
  | 1, _ => exact ⟨_, rfl, rfl, hc, Tryd.underlying3⟩
  | 2, _ => exact ⟨_, rfl, rfl, hc, Tryd.underlying3⟩
  | 3, _ => exact ⟨_, rfl, rfl, hc, Tryd.underlying3⟩
  | 4, _ => exact ⟨_, rfl, rfl, hc, Tryd.underlying3⟩
theorem roadFields {fs : Array Field} (h : Tryd.prog.underlying 39 = some (.struct fs)) : fs.size = 3 ∧ ∀ i, i < 3 → ∃ f, fs[i]? = some f ∧ f.offset = i ∧ Tryd.prog.cellsOf f.type = 1 ∧ Tryd.prog.underlying f.type = some (.int .i64) := by
  have hc : Tryd.prog.cellsOf 3 = 1 := by kernel_rfl
  rw [Tryd.underlying39] at h
  cases h
  refine ⟨rfl, fun i hi => ?_⟩
  match i, hi with
  | 0, _ => exact ⟨_, rfl, rfl, hc, Tryd.underlying3⟩
  | 1, _ => exact ⟨_, rfl, rfl, hc, Tryd.underlying3⟩
  | 2, _ => exact ⟨_, rfl, rfl, hc, Tryd.underlying3⟩
/- an instance that came in -/
theorem open_inst {H : Type} {enc : TypeId × Value → H} {W : World} {base : Nat} {v : Value} {d : DataW H} {p : List MemPlace} (hv : Value.okWide Tryd.prog W .any base 25 v) (h : DataW.Trod enc Tryd.prog W 0 (fun _ => true) true 25 v d p) :
    ∃ (X : Nat → Int) (S T : Nat → Nat → Int) (aS aR : Option Addr) (n m cn cm : Nat), v = .agg #[.int .i64 (X 0), .int .i64 (X 1), .int .i64 (X 2), .int .i64 (X 3), .int .i64 (X 4), .slice aS n cn, .slice aR m cm] ∧
      (∀ i, i < 5 → -9223372036854775808 ≤ X i ∧ X i ≤ 9223372036854775807) ∧ n ≤ 9223372036854775807 ∧ m ≤ 9223372036854775807 ∧ Came W aS n 5 S ∧ Came W aR m 3 T := by
  obtain ⟨cs, rfl, hsz⟩ := okWide_struct Tryd.underlying25 hv
  have hC : Tryd.prog.cellsOf 25 = 7 := by kernel_rfl
  have hc1 : Tryd.prog.cellsOf 3 = 1 := by kernel_rfl
  have hc2 : Tryd.prog.cellsOf 22 = 1 := by kernel_rfl
  have hc3 : Tryd.prog.cellsOf 23 = 1 := by kernel_rfl
  obtain ⟨c0, c1, c2, c3, c4, c5, c6, rfl⟩ := array7 (hsz.trans hC)
  obtain ⟨fuel, hf⟩ := h
  obtain ⟨xs, n, _, _, _, hxl, hfl⟩ := DataW.trod_struct Tryd.underlying25 hf
  have hx : ∀ i, i < 7 → ∃ y, xs[i]? = some y := fun i hi => ⟨_, List.getElem?_eq_getElem (by rw [hxl]; exact hi)⟩
  obtain ⟨y0, e0⟩ := hx 0 (by omega)
  obtain ⟨y1, e1⟩ := hx 1 (by omega)
  obtain ⟨y2, e2⟩ := hx 2 (by omega)
  obtain ⟨y3, e3⟩ := hx 3 (by omega)
  obtain ⟨y4, e4⟩ := hx 4 (by omega)
  obtain ⟨y5, e5⟩ := hx 5 (by omega)
  obtain ⟨y6, e6⟩ := hx 6 (by omega)
  have g0 : DataW.trod enc Tryd.prog W 0 (fun _ => true) true n 3 [c0] = some y0 := by simpa [hc1, Value.cells] using (hfl 0 _ rfl).trans e0
  have g1 : DataW.trod enc Tryd.prog W 0 (fun _ => true) true n 3 [c1] = some y1 := by simpa [hc1, Value.cells] using (hfl 1 _ rfl).trans e1
  have g2 : DataW.trod enc Tryd.prog W 0 (fun _ => true) true n 3 [c2] = some y2 := by simpa [hc1, Value.cells] using (hfl 2 _ rfl).trans e2
  have g3 : DataW.trod enc Tryd.prog W 0 (fun _ => true) true n 3 [c3] = some y3 := by simpa [hc1, Value.cells] using (hfl 3 _ rfl).trans e3
  have g4 : DataW.trod enc Tryd.prog W 0 (fun _ => true) true n 3 [c4] = some y4 := by simpa [hc1, Value.cells] using (hfl 4 _ rfl).trans e4
  have g5 : DataW.trod enc Tryd.prog W 0 (fun _ => true) true n 22 [c5] = some y5 := by simpa [hc2, Value.cells] using (hfl 5 _ rfl).trans e5
  have g6 : DataW.trod enc Tryd.prog W 0 (fun _ => true) true n 23 [c6] = some y6 := by simpa [hc3, Value.cells] using (hfl 6 _ rfl).trans e6
  obtain ⟨z0, q0, _, w0⟩ := DataW.trod_int Tryd.underlying3 g0
  obtain ⟨z1, q1, _, w1⟩ := DataW.trod_int Tryd.underlying3 g1
  obtain ⟨z2, q2, _, w2⟩ := DataW.trod_int Tryd.underlying3 g2
  obtain ⟨z3, q3, _, w3⟩ := DataW.trod_int Tryd.underlying3 g3
  obtain ⟨z4, q4, _, w4⟩ := DataW.trod_int Tryd.underlying3 g4
  cases q0; cases q1; cases q2; cases q3; cases q4
  obtain ⟨aS, len, cap, S, rfl, hl, hS⟩ := came_of (c := c5) Tryd.underlying22 Tryd.underlying37 (k := 5) (Nat.le_of_eq (stopFields Tryd.underlying37).1.symm) (by kernel_rfl) (stopFields Tryd.underlying37).2 (by omega) g5
  obtain ⟨aR, len', cap', T, rfl, hl', hT⟩ := came_of (c := c6) Tryd.underlying23 Tryd.underlying39 (k := 3) (Nat.le_of_eq (roadFields Tryd.underlying39).1.symm) (by kernel_rfl) (roadFields Tryd.underlying39).2 (by omega) g6
  refine ⟨fun i => [z0, z1, z2, z3, z4].getD i 0, S, T, aS, aR, len, len', cap, cap', rfl, fun i hi => ?_, hl, hl', hS, hT⟩
  match i, hi with
  | 0, _ => exact wf_range w0
  | 1, _ => exact wf_range w1
  | 2, _ => exact wf_range w2
  | 3, _ => exact wf_range w3
  | 4, _ => exact wf_range w4
end Go.Proofs.YtebinaopncclgaaDoor
