/- A script that comes in is opened, with the instances of its steps. -/
import Derived.Test.YtebinaopncclgabGreatDoorPlay
import Derived.Test.YtebinaopncclgabGreatDoorOpenS
namespace Go.Proofs.YtebinaopncclgabGreatDoor
open Go.RowKit Go.IntWalk

/- what is asked of a step that is printed -/
structure OpX (w : World) (o : OpV) (S T : Nat → Nat → Int) : Prop where
  x3 : -9223372036854775808 ≤ o.x3 ∧ o.x3 ≤ 9223372036854775807
  n : o.nS * 40 ≤ 140737488355328
  m : o.nR * 24 ≤ 140737488355328
  s : Lies w o.aS o.nS 5 S
  r : Lies w o.aR o.nR 3 T
end Go.Proofs.YtebinaopncclgabGreatDoor
namespace Go.Proofs.YtebinaopncclgabGreatDoor
open Go.ChangeShapes Go.WideShapes Go.ChangeAt Go.RowKit Go.Deep

/- a struct whose fields are ints, one cell each -/
theorem ints_of {H : Type} {enc : TypeId × Value → H} {P : Program} {w : World} {base : Nat} {spare : Nat → Bool} {held : Bool} {e : TypeId} {fs : Array Field} {fuel k : Nat} {cs : List Value} {x : DataW H × List MemPlace}
    (he : P.underlying e = some (.struct fs)) (hk : k ≤ fs.size) (hf : ∀ i, i < k → ∃ f, fs[i]? = some f ∧ f.offset = i ∧ P.cellsOf f.type = 1 ∧ P.underlying f.type = some (.int .i64))
    (h : DataW.trod enc P w base spare held fuel e cs = some x) : ∀ i, i < k → ∃ z, cs[i]? = some (.int .i64 z) ∧ (Lit.int .i64 z).wf = true := by
  intro i hi
  obtain ⟨xs, n, _, _, _, hxl, hfl⟩ := DataW.trod_struct he h
  obtain ⟨f, hfi, ho, hc, hu⟩ := hf i hi
  have g := hfl i f hfi
  rw [ho, hc] at g
  have hxi : i < xs.length := by omega
  rw [List.getElem?_eq_getElem hxi] at g
  obtain ⟨z, hz, _, hw⟩ := DataW.trod_int hu g
  refine ⟨z, ?_, hw⟩
  have := congrArg (fun l => l[0]?) hz
  simpa using this
theorem wf_range {z : Int} (h : (Lit.int .i64 z).wf = true) : -9223372036854775808 ≤ z ∧ z ≤ 9223372036854775807 := by
  simp [Lit.wf, IntKind.min, IntKind.max, IntKind.signed, IntKind.bits] at h
  exact ⟨by omega, by omega⟩
/- a list of such structs that came in -/
theorem lies_of {H : Type} {enc : TypeId × Value → H} {P : Program} {w : World} {held : Bool} {t e : TypeId} {fs : Array Field} {fuel k : Nat} {c : Value} {x : DataW H × List MemPlace}
    (ht : P.underlying t = some (.slice e)) (he : P.underlying e = some (.struct fs)) (hk : k ≤ fs.size) (hce : P.cellsOf e = k) (hf : ∀ i, i < k → ∃ f, fs[i]? = some f ∧ f.offset = i ∧ P.cellsOf f.type = 1 ∧ P.underlying f.type = some (.int .i64)) (hk0 : 0 < k)
    (h : DataW.trod enc P w 0 (fun _ => true) held fuel t [c] = some x) :
    ∃ ao len cap S, c = .slice ao len cap ∧ Lies w ao len k S ∧ (0 < len → ∃ elems spare, x.1 = .slice elems spare ∧ elems.length = len) := by
  rcases open_slice ht h with ⟨hcs, _⟩ | ⟨a, len, cap, m, n, D, Pl, hcs, _, hl, hm, hmm, hxx, hx⟩
  · cases hcs
    exact ⟨none, 0, 0, fun _ _ => 0, rfl, fun h => absurd h (by omega), fun h => absurd h (by omega)⟩
  · cases hcs
    simp only [if_true] at hmm
    subst hmm
    have each : ∀ i, i < len → ∃ s : Nat → Int, ∀ j, j < k → w.cell? (a.add (i * k + j)) = some (.int .i64 (s j)) ∧ (Lit.int .i64 (s j)).wf = true := by
      intro i hi
      obtain ⟨cs', h1, h2⟩ := hx i (by omega)
      rw [hce] at h1
      obtain ⟨_, hlen, hcell⟩ := World.cells?_some h1
      have hz := ints_of he hk hf h2
      obtain ⟨s, hs⟩ := choose_lt (α := Int) hz
      refine ⟨s, fun j hj => ⟨?_, (hs j hj).2⟩⟩
      have e1 := hcell j (by omega)
      rw [add_add] at e1
      rw [e1]; exact (hs j hj).1
    obtain ⟨S, hS⟩ := choose_lt (α := Nat → Int) each
    refine ⟨some a, len, _, S, rfl, fun hn => ?_, fun _ => ⟨_, _, by rw [hxx], by simp⟩⟩
    obtain ⟨b, off, spot⟩ := a
    have hc0 := (hS 0 hn 0 hk0).1
    have hspot : spot = none := by simpa [Addr.add] using World.cell?_spot hc0
    subst hspot
    refine ⟨b, off, rfl, ?_, fun i j hi hj => ?_⟩
    · rw [Addr.add_lit] at hc0; exact World.block_lt_of_cell? w _ hc0
    · have h1 := hS i hi j hj
      have h2 := h1.1
      rw [Addr.add_lit, ← Nat.add_assoc] at h2
      exact h2
theorem stopFields {fs : Array Field} (h : Tryz.prog.underlying 62 = some (.struct fs)) : fs.size = 5 ∧ ∀ i, i < 5 → ∃ f, fs[i]? = some f ∧ f.offset = i ∧ Tryz.prog.cellsOf f.type = 1 ∧ Tryz.prog.underlying f.type = some (.int .i64) := by
  have hc : Tryz.prog.cellsOf 3 = 1 := by kernel_rfl
  rw [Tryz.underlying62] at h
  cases h
  refine ⟨rfl, fun i hi => ?_⟩
  match i, hi with
  | 0, _ => exact ⟨_, rfl, rfl, hc, Tryz.underlying3⟩
  | 1, _ => exact ⟨_, rfl, rfl, hc, Tryz.underlying3⟩
  | 2, _ => exact ⟨_, rfl, rfl, hc, Tryz.underlying3⟩
  | 3, _ => exact ⟨_, rfl, rfl, hc, Tryz.underlying3⟩
  | 4, _ => exact ⟨_, rfl, rfl, hc, Tryz.underlying3⟩
theorem roadFields {fs : Array Field} (h : Tryz.prog.underlying 64 = some (.struct fs)) : fs.size = 3 ∧ ∀ i, i < 3 → ∃ f, fs[i]? = some f ∧ f.offset = i ∧ Tryz.prog.cellsOf f.type = 1 ∧ Tryz.prog.underlying f.type = some (.int .i64) := by
  have hc : Tryz.prog.cellsOf 3 = 1 := by kernel_rfl
  rw [Tryz.underlying64] at h
  cases h
  refine ⟨rfl, fun i hi => ?_⟩
  match i, hi with
  | 0, _ => exact ⟨_, rfl, rfl, hc, Tryz.underlying3⟩
  | 1, _ => exact ⟨_, rfl, rfl, hc, Tryz.underlying3⟩
  | 2, _ => exact ⟨_, rfl, rfl, hc, Tryz.underlying3⟩
theorem stop_bytes : Tryz.prog.bytesOf 62 = 40 := by kernel_rfl
theorem road_bytes : Tryz.prog.bytesOf 64 = 24 := by kernel_rfl
def opTypes : List TypeId := [3, 3, 9, 9, 9, 31, 28, 56]
def inTypes : List TypeId := [3, 3, 3, 3, 3, 25, 26]
theorem all_part {H : Type} {P : Program} {ts : List TypeId} {ds : List (DataW H)} {j : Nat} {t : TypeId} {d : DataW H} (h : (DataW.weightsEach P ts ds).all (· ≤ reachBytes) = true) (ht : ts[j]? = some t) (hd : ds[j]? = some d) : (d.weights P t).all (· ≤ reachBytes) = true := by
  rw [List.all_eq_true] at h ⊢
  exact fun k hk => h k (DataW.weights_mem_each ht hd k hk)
theorem mem_all {H : Type} {P : Program} {e : TypeId} {d : DataW H} {k : Nat} : ∀ {l : List (DataW H)}, d ∈ l → k ∈ d.weights P e → k ∈ DataW.weightsAll P e l
  | [], hd, _ => by cases hd
  | x :: r, hd, hk => by
    simp only [DataW.weightsAll, List.mem_append]
    rcases List.mem_cons.1 hd with rfl | hd
    · exact .inl hk
    · exact .inr (mem_all hd hk)
theorem all_elem {H : Type} {P : Program} {t e : TypeId} {elems spare : List (DataW H)} {d : DataW H} (ht : P.underlying t = some (.slice e)) (h : ((DataW.slice elems spare).weights P t).all (· ≤ reachBytes) = true) (hd : d ∈ elems) : (d.weights P e).all (· ≤ reachBytes) = true := by
  rw [List.all_eq_true] at h ⊢
  intro k hk
  refine h k ?_
  simp only [DataW.weights, ht, List.mem_cons, List.mem_append]
  exact .inr (.inl (mem_all hd hk))
theorem list_room {H : Type} {P : Program} {t e : TypeId} {d : DataW H} {n bytes : Nat} (hb : P.bytesOf e = bytes) (ht : P.underlying t = some (.slice e)) (h : (d.weights P t).all (· ≤ reachBytes) = true) (hd : 0 < n → ∃ elems spare, d = .slice elems spare ∧ elems.length = n) : n * bytes ≤ 140737488355328 := by
  rcases Nat.eq_zero_or_pos n with h0 | h0
  · subst h0; simp
  · obtain ⟨elems, spare, rfl, hl⟩ := hd h0
    have h1 := List.all_eq_true.1 h ((elems.length + spare.length) * P.bytesOf e) (by simp [DataW.weights, ht])
    have h2 := reachBytes_lt
    rw [hb] at h1
    have h3 : n * bytes ≤ (elems.length + spare.length) * bytes := Nat.mul_le_mul_right bytes (by omega)
    have h4 : (elems.length + spare.length) * bytes ≤ reachBytes := by simpa using h1
    have h5 : (2 : Nat) ^ 47 = 140737488355328 := by decide
    omega

/- a step that came in -/
theorem open_opx {H : Type} {enc : TypeId × Value → H} {W : World} {held : Bool} {fuel : Nat} {cs : List Value} {x : DataW H × List MemPlace} (hw : (x.1.weights Tryz.prog 58).all (· ≤ reachBytes) = true) (h : DataW.trod enc Tryz.prog W 0 (fun _ => true) held fuel 58 cs = some x) :
    ∃ o : OpV, cs = o.vals.toList ∧ o.s.size ≤ maxLen ∧ o.t.size ≤ maxLen ∧ o.u.size ≤ maxLen ∧ ∃ S T, OpX W o S T := by
  have hC : Tryz.prog.cellsOf 58 = 14 := by kernel_rfl
  have hCI : Tryz.prog.cellsOf 28 = 7 := by kernel_rfl
  have hc1 : Tryz.prog.cellsOf 3 = 1 := by kernel_rfl
  have hcs : Tryz.prog.cellsOf 9 = 1 := by kernel_rfl
  have hcm : Tryz.prog.cellsOf 31 = 1 := by kernel_rfl
  have hcl : Tryz.prog.cellsOf 56 = 1 := by kernel_rfl
  have hc2 : Tryz.prog.cellsOf 25 = 1 := by kernel_rfl
  have hc3 : Tryz.prog.cellsOf 26 = 1 := by kernel_rfl
  obtain ⟨xs, n, _, hxe, hlen, hxl, hfl⟩ := DataW.trod_struct Tryz.underlying58 h
  obtain ⟨c0, c1, c2, c3, c4, c5, c6, c7, c8, c9, c10, c11, c12, c13, rfl⟩ := list14 (hlen.trans hC)
  have hx : ∀ i, i < 8 → ∃ y, xs[i]? = some y := fun i hi => ⟨_, List.getElem?_eq_getElem (by rw [hxl]; exact hi)⟩
  obtain ⟨y0, e0⟩ := hx 0 (by omega)
  obtain ⟨y1, e1⟩ := hx 1 (by omega)
  obtain ⟨y2, e2⟩ := hx 2 (by omega)
  obtain ⟨y3, e3⟩ := hx 3 (by omega)
  obtain ⟨y4, e4⟩ := hx 4 (by omega)
  obtain ⟨y5, e5⟩ := hx 5 (by omega)
  obtain ⟨y6, e6⟩ := hx 6 (by omega)
  obtain ⟨y7, e7⟩ := hx 7 (by omega)
  have g0 : DataW.trod enc Tryz.prog W 0 (fun _ => true) held n 3 [c0] = some y0 := by simpa [hc1] using (hfl 0 _ rfl).trans e0
  have g1 : DataW.trod enc Tryz.prog W 0 (fun _ => true) held n 3 [c1] = some y1 := by simpa [hc1] using (hfl 1 _ rfl).trans e1
  have g2 : DataW.trod enc Tryz.prog W 0 (fun _ => true) held n 9 [c2] = some y2 := by simpa [hcs] using (hfl 2 _ rfl).trans e2
  have g3 : DataW.trod enc Tryz.prog W 0 (fun _ => true) held n 9 [c3] = some y3 := by simpa [hcs] using (hfl 3 _ rfl).trans e3
  have g4 : DataW.trod enc Tryz.prog W 0 (fun _ => true) held n 9 [c4] = some y4 := by simpa [hcs] using (hfl 4 _ rfl).trans e4
  have g5 : DataW.trod enc Tryz.prog W 0 (fun _ => true) held n 31 [c5] = some y5 := by simpa [hcm] using (hfl 5 _ rfl).trans e5
  have g6 : DataW.trod enc Tryz.prog W 0 (fun _ => true) held n 28 [c6, c7, c8, c9, c10, c11, c12] = some y6 := by simpa [hCI] using (hfl 6 _ rfl).trans e6
  have g7 : DataW.trod enc Tryz.prog W 0 (fun _ => true) held n 56 [c13] = some y7 := by simpa [hcl] using (hfl 7 _ rfl).trans e7
  obtain ⟨zs, n', _, hze, _, hzl, hzf⟩ := DataW.trod_struct Tryz.underlying28 g6
  have hy : ∀ i, i < 7 → ∃ y, zs[i]? = some y := fun i hi => ⟨_, List.getElem?_eq_getElem (by rw [hzl]; exact hi)⟩
  obtain ⟨u0, d0⟩ := hy 0 (by omega)
  obtain ⟨u1, d1⟩ := hy 1 (by omega)
  obtain ⟨u2, d2⟩ := hy 2 (by omega)
  obtain ⟨u3, d3⟩ := hy 3 (by omega)
  obtain ⟨u4, d4⟩ := hy 4 (by omega)
  obtain ⟨u5, d5⟩ := hy 5 (by omega)
  obtain ⟨u6, d6⟩ := hy 6 (by omega)
  have k0 : DataW.trod enc Tryz.prog W 0 (fun _ => true) held n' 3 [c6] = some u0 := by simpa [hc1] using (hzf 0 _ rfl).trans d0
  have k1 : DataW.trod enc Tryz.prog W 0 (fun _ => true) held n' 3 [c7] = some u1 := by simpa [hc1] using (hzf 1 _ rfl).trans d1
  have k2 : DataW.trod enc Tryz.prog W 0 (fun _ => true) held n' 3 [c8] = some u2 := by simpa [hc1] using (hzf 2 _ rfl).trans d2
  have k3 : DataW.trod enc Tryz.prog W 0 (fun _ => true) held n' 3 [c9] = some u3 := by simpa [hc1] using (hzf 3 _ rfl).trans d3
  have k4 : DataW.trod enc Tryz.prog W 0 (fun _ => true) held n' 3 [c10] = some u4 := by simpa [hc1] using (hzf 4 _ rfl).trans d4
  have k5 : DataW.trod enc Tryz.prog W 0 (fun _ => true) held n' 25 [c11] = some u5 := by simpa [hc2] using (hzf 5 _ rfl).trans d5
  have k6 : DataW.trod enc Tryz.prog W 0 (fun _ => true) held n' 26 [c12] = some u6 := by simpa [hc3] using (hzf 6 _ rfl).trans d6
  obtain ⟨z0, rfl, _⟩ := int_shape Tryz.underlying3 g0
  obtain ⟨z1, rfl, _⟩ := int_shape Tryz.underlying3 g1
  obtain ⟨s, rfl, hs⟩ := string_shape Tryz.underlying9 g2
  obtain ⟨t, rfl, ht⟩ := string_shape Tryz.underlying9 g3
  obtain ⟨u, rfl, hu⟩ := string_shape Tryz.underlying9 g4
  obtain ⟨am, nm, cm, rfl⟩ := slice_shape Tryz.underlying31 g5
  obtain ⟨x0, rfl, _⟩ := int_shape Tryz.underlying3 k0
  obtain ⟨x1, rfl, _⟩ := int_shape Tryz.underlying3 k1
  obtain ⟨x2, rfl, _⟩ := int_shape Tryz.underlying3 k2
  obtain ⟨x3, rfl, hx3⟩ := int_shape Tryz.underlying3 k3
  obtain ⟨x4, rfl, _⟩ := int_shape Tryz.underlying3 k4
  have w6 : (y6.1.weights Tryz.prog 28).all (· ≤ reachBytes) = true := by
    rw [hxe] at hw
    refine all_part (ts := opTypes) (ds := xs.map (·.1)) (j := 6) ?_ rfl (by rw [List.getElem?_map, e6]; rfl)
    simpa [DataW.weights, Tryz.underlying58, opTypes] using hw
  have wS : (u5.1.weights Tryz.prog 25).all (· ≤ reachBytes) = true := by
    rw [hze] at w6
    refine all_part (ts := inTypes) (ds := zs.map (·.1)) (j := 5) ?_ rfl (by rw [List.getElem?_map, d5]; rfl)
    simpa [DataW.weights, Tryz.underlying28, inTypes] using w6
  have wR : (u6.1.weights Tryz.prog 26).all (· ≤ reachBytes) = true := by
    rw [hze] at w6
    refine all_part (ts := inTypes) (ds := zs.map (·.1)) (j := 6) ?_ rfl (by rw [List.getElem?_map, d6]; rfl)
    simpa [DataW.weights, Tryz.underlying28, inTypes] using w6
  obtain ⟨aS, nS, cS, S, rfl, hS, hSl⟩ := lies_of (c := c11) Tryz.underlying25 Tryz.underlying62 (k := 5) (Nat.le_of_eq (stopFields Tryz.underlying62).1.symm) (by kernel_rfl) (stopFields Tryz.underlying62).2 (by omega) k5
  obtain ⟨aR, nR, cR, T, rfl, hT, hTl⟩ := lies_of (c := c12) Tryz.underlying26 Tryz.underlying64 (k := 3) (Nat.le_of_eq (roadFields Tryz.underlying64).1.symm) (by kernel_rfl) (roadFields Tryz.underlying64).2 (by omega) k6
  obtain ⟨aL, nL, cL, rfl⟩ := slice_shape Tryz.underlying56 g7
  exact ⟨⟨z0, z1, s, t, u, am, nm, cm, x0, x1, x2, x3, x4, aS, nS, cS, aR, nR, cR, aL, nL, cL⟩, rfl, hs, ht, hu, S, T, wf_range hx3, list_room stop_bytes Tryz.underlying25 wS hSl, list_room road_bytes Tryz.underlying26 wR hTl, hS, hT⟩

end Go.Proofs.YtebinaopncclgabGreatDoor
