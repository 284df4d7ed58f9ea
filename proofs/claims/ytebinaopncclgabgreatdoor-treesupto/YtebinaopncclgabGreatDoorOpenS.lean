/- A script that comes in is opened. -/
import Derived.Test.YtebinaopncclgabGreatDoorUpTo
import Derived.ProofKit
import Derived.OpenShut
import Derived.ChangeOld
import Derived.Below
import Derived.SizedLaws
import Derived.Deep.Slices
namespace Go.Proofs.YtebinaopncclgabGreatDoor
open Go.ChangeShapes Go.WideShapes Go.ChangeAt Go.RowKit Go.Deep

theorem own : ownKnob Tryz.prog.godebug = none := by kernel_rfl
theorem laidOut : laidOutB Tryz.prog = true := by kernel_rfl

theorem list14 {α : Type} {cs : List α} (h : cs.length = 14) : ∃ c0 c1 c2 c3 c4 c5 c6 c7 c8 c9 c10 c11 c12 c13, cs = [c0, c1, c2, c3, c4, c5, c6, c7, c8, c9, c10, c11, c12, c13] := by
  match cs, h with
  | [c0, c1, c2, c3, c4, c5, c6, c7, c8, c9, c10, c11, c12, c13], _ => exact ⟨c0, c1, c2, c3, c4, c5, c6, c7, c8, c9, c10, c11, c12, c13, rfl⟩
theorem slice_shape {H : Type} {enc : TypeId × Value → H} {P : Program} {w : World} {base : Nat} {spare : Nat → Bool} {held : Bool} {t e : TypeId} {fuel : Nat} {c : Value} {x : DataW H × List MemPlace} (ht : P.underlying t = some (.slice e)) (h : DataW.trod enc P w base spare held fuel t [c] = some x) : ∃ ao n cp, c = .slice ao n cp := by
  rcases open_slice ht h with ⟨hcs, _⟩ | ⟨a, len, cap, m, n, D, Pl, hcs, _⟩
  · cases hcs; exact ⟨_, _, _, rfl⟩
  · cases hcs; exact ⟨_, _, _, rfl⟩
theorem int_shape {H : Type} {enc : TypeId × Value → H} {P : Program} {w : World} {base : Nat} {spare : Nat → Bool} {held : Bool} {t : TypeId} {fuel : Nat} {c : Value} {x : DataW H × List MemPlace} (ht : P.underlying t = some (.int .i64)) (h : DataW.trod enc P w base spare held fuel t [c] = some x) : ∃ z, c = .int .i64 z ∧ (Lit.int .i64 z).wf = true := by
  obtain ⟨z, hz, _, hw⟩ := DataW.trod_int ht h
  cases hz; exact ⟨z, rfl, hw⟩
theorem string_shape {H : Type} {enc : TypeId × Value → H} {P : Program} {w : World} {base : Nat} {spare : Nat → Bool} {held : Bool} {t : TypeId} {fuel : Nat} {c : Value} {x : DataW H × List MemPlace} (ht : P.underlying t = some .string) (h : DataW.trod enc P w base spare held fuel t [c] = some x) : ∃ s : ByteArray, c = .string s ∧ s.size ≤ maxLen := by
  obtain ⟨z, hz, _, hw⟩ := DataW.trod_string ht h
  cases hz; exact ⟨z, rfl, hw⟩

/- a step that came in -/
theorem open_op {H : Type} {enc : TypeId × Value → H} {W : World} {base : Nat} {spare : Nat → Bool} {held : Bool} {fuel : Nat} {cs : List Value} {x : DataW H × List MemPlace} (h : DataW.trod enc Tryz.prog W base spare held fuel 58 cs = some x) :
    ∃ o : OpV, cs = o.vals.toList ∧ o.s.size ≤ maxLen ∧ o.t.size ≤ maxLen ∧ o.u.size ≤ maxLen := by
  have hC : Tryz.prog.cellsOf 58 = 14 := by kernel_rfl
  have hCI : Tryz.prog.cellsOf 28 = 7 := by kernel_rfl
  have hc1 : Tryz.prog.cellsOf 3 = 1 := by kernel_rfl
  have hcs : Tryz.prog.cellsOf 9 = 1 := by kernel_rfl
  have hcm : Tryz.prog.cellsOf 31 = 1 := by kernel_rfl
  have hcl : Tryz.prog.cellsOf 56 = 1 := by kernel_rfl
  have hc2 : Tryz.prog.cellsOf 25 = 1 := by kernel_rfl
  have hc3 : Tryz.prog.cellsOf 26 = 1 := by kernel_rfl
  obtain ⟨xs, n, _, _, hlen, hxl, hfl⟩ := DataW.trod_struct Tryz.underlying58 h
  obtain ⟨c0, c1, c2, c3, c4, c5, c6, c7, c8, c9, c10, c11, c12, c13, rfl⟩ := list14 (hlen.trans hC)
  have hx : ∀ i, i < 8 → ∃ y, xs[i]? = some y := fun i hi => ⟨_, List.getElem?_eq_getElem (by rw [hxl]; exact hi)⟩
  obtain ⟨y0, e0⟩ := hx 0 (by omega)
  obtain ⟨y1, e1⟩ := hx 1 (by omega)
  obtain ⟨y2, e2⟩ := hx 2 (by omega)
  obtain ⟨y3, e3⟩ := hx 3 (by omega)
  obtain ⟨y4, e4⟩ := hx 4 (by omega)
  obtain ⟨y5, e5⟩ := hx 5 (by omega)
  obtain ⟨y6, e6⟩ := hx 6 (by omega)
  obtain ⟨y7, e7⟩ := hx 7 (by omega)
  have g0 : DataW.trod enc Tryz.prog W base spare held n 3 [c0] = some y0 := by simpa [hc1] using (hfl 0 _ rfl).trans e0
  have g1 : DataW.trod enc Tryz.prog W base spare held n 3 [c1] = some y1 := by simpa [hc1] using (hfl 1 _ rfl).trans e1
  have g2 : DataW.trod enc Tryz.prog W base spare held n 9 [c2] = some y2 := by simpa [hcs] using (hfl 2 _ rfl).trans e2
  have g3 : DataW.trod enc Tryz.prog W base spare held n 9 [c3] = some y3 := by simpa [hcs] using (hfl 3 _ rfl).trans e3
  have g4 : DataW.trod enc Tryz.prog W base spare held n 9 [c4] = some y4 := by simpa [hcs] using (hfl 4 _ rfl).trans e4
  have g5 : DataW.trod enc Tryz.prog W base spare held n 31 [c5] = some y5 := by simpa [hcm] using (hfl 5 _ rfl).trans e5
  have g6 : DataW.trod enc Tryz.prog W base spare held n 28 [c6, c7, c8, c9, c10, c11, c12] = some y6 := by simpa [hCI] using (hfl 6 _ rfl).trans e6
  have g7 : DataW.trod enc Tryz.prog W base spare held n 56 [c13] = some y7 := by simpa [hcl] using (hfl 7 _ rfl).trans e7
  obtain ⟨zs, n', _, _, _, hzl, hzf⟩ := DataW.trod_struct Tryz.underlying28 g6
  have hy : ∀ i, i < 7 → ∃ y, zs[i]? = some y := fun i hi => ⟨_, List.getElem?_eq_getElem (by rw [hzl]; exact hi)⟩
  obtain ⟨u0, d0⟩ := hy 0 (by omega)
  obtain ⟨u1, d1⟩ := hy 1 (by omega)
  obtain ⟨u2, d2⟩ := hy 2 (by omega)
  obtain ⟨u3, d3⟩ := hy 3 (by omega)
  obtain ⟨u4, d4⟩ := hy 4 (by omega)
  obtain ⟨u5, d5⟩ := hy 5 (by omega)
  obtain ⟨u6, d6⟩ := hy 6 (by omega)
  have k0 : DataW.trod enc Tryz.prog W base spare held n' 3 [c6] = some u0 := by simpa [hc1] using (hzf 0 _ rfl).trans d0
  have k1 : DataW.trod enc Tryz.prog W base spare held n' 3 [c7] = some u1 := by simpa [hc1] using (hzf 1 _ rfl).trans d1
  have k2 : DataW.trod enc Tryz.prog W base spare held n' 3 [c8] = some u2 := by simpa [hc1] using (hzf 2 _ rfl).trans d2
  have k3 : DataW.trod enc Tryz.prog W base spare held n' 3 [c9] = some u3 := by simpa [hc1] using (hzf 3 _ rfl).trans d3
  have k4 : DataW.trod enc Tryz.prog W base spare held n' 3 [c10] = some u4 := by simpa [hc1] using (hzf 4 _ rfl).trans d4
  have k5 : DataW.trod enc Tryz.prog W base spare held n' 25 [c11] = some u5 := by simpa [hc2] using (hzf 5 _ rfl).trans d5
  have k6 : DataW.trod enc Tryz.prog W base spare held n' 26 [c12] = some u6 := by simpa [hc3] using (hzf 6 _ rfl).trans d6
  obtain ⟨z0, rfl, _⟩ := int_shape Tryz.underlying3 g0
  obtain ⟨z1, rfl, _⟩ := int_shape Tryz.underlying3 g1
  obtain ⟨s, rfl, hs⟩ := string_shape Tryz.underlying9 g2
  obtain ⟨t, rfl, ht⟩ := string_shape Tryz.underlying9 g3
  obtain ⟨u, rfl, hu⟩ := string_shape Tryz.underlying9 g4
  obtain ⟨am, nm, cm, rfl⟩ := slice_shape Tryz.underlying31 g5
  obtain ⟨x0, rfl, _⟩ := int_shape Tryz.underlying3 k0
  obtain ⟨x1, rfl, _⟩ := int_shape Tryz.underlying3 k1
  obtain ⟨x2, rfl, _⟩ := int_shape Tryz.underlying3 k2
  obtain ⟨x3, rfl, _⟩ := int_shape Tryz.underlying3 k3
  obtain ⟨x4, rfl, _⟩ := int_shape Tryz.underlying3 k4
  obtain ⟨aS, nS, cS, rfl⟩ := slice_shape Tryz.underlying25 k5
  obtain ⟨aR, nR, cR, rfl⟩ := slice_shape Tryz.underlying26 k6
  obtain ⟨aL, nL, cL, rfl⟩ := slice_shape Tryz.underlying56 g7
  exact ⟨⟨z0, z1, s, t, u, am, nm, cm, x0, x1, x2, x3, x4, aS, nS, cS, aR, nR, cR, aL, nL, cL⟩, rfl, hs, ht, hu⟩

end Go.Proofs.YtebinaopncclgabGreatDoor
