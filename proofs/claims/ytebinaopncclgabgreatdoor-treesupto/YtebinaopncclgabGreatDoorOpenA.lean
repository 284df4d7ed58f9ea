/- A script that comes in is opened, with all of its steps: squares, instances, nodes; and how great they are. -/
import Derived.Test.YtebinaopncclgabGreatDoorOpenX
import Derived.Test.YtebinaopncclgabGreatDoorOpenU
import Derived.Test.YtebinaopncclgabGreatDoorAFault
namespace Go.Proofs.YtebinaopncclgabGreatDoor
open Go.ChangeShapes Go.WideShapes Go.ChangeAt Go.RowKit Go.Deep

/- nodes that came in: kinds and lists of numbers -/
def NodesZ (w : World) (ao : Option Addr) (n : Nat) (kd : Nat → Int) (ra : Nat → Option Addr) (rn rc : Nat → Nat) (Q : Nat → Nat → Int) : Prop :=
  0 < n → ∃ b o, ao = some ⟨b, o, none⟩ ∧ b < w.heap.size ∧ ∀ i, i < n → w.cell? ⟨b, o + i * 2, none⟩ = some (.int .i64 (kd i)) ∧ (-9223372036854775808 ≤ kd i ∧ kd i ≤ 9223372036854775807) ∧ w.cell? ⟨b, o + i * 2 + 1, none⟩ = some (.slice (ra i) (rn i) (rc i)) ∧ rn i ≤ 9223372036854775807 ∧ (0 < rn i → ∃ b' o', ra i = some ⟨b', o', none⟩ ∧ b' < w.heap.size ∧ ∀ j, j < rn i → w.cell? ⟨b', o' + j, none⟩ = some (.int .i64 (Q i j)) ∧ -9223372036854775808 ≤ Q i j ∧ Q i j ≤ 9223372036854775807)
theorem NodesZ.below {w w' : World} {ao : Option Addr} {n : Nat} {kd : Nat → Int} {ra : Nat → Option Addr} {rn rc : Nat → Nat} {Q : Nat → Nat → Int} (h : NodesZ w ao n kd ra rn rc Q) (hb : Below w.heap.size w w') : NodesZ w' ao n kd ra rn rc Q := fun hn => by
  obtain ⟨b, o, h1, h2, h3⟩ := h hn
  refine ⟨b, o, h1, Nat.lt_of_lt_of_le h2 hb.size, fun i hi => ?_⟩
  obtain ⟨k0, kr, k1, k2, k3⟩ := h3 i hi
  refine ⟨(hb.cell (by exact h2)).trans k0, kr, (hb.cell (by exact h2)).trans k1, k2, fun hr => ?_⟩
  obtain ⟨b', o', m1, m2, m3⟩ := k3 hr
  exact ⟨b', o', m1, Nat.lt_of_lt_of_le m2 hb.size, fun j hj => ⟨(hb.cell (by exact m2)).trans (m3 j hj).1, (m3 j hj).2⟩⟩

/- a list of numbers that came in -/
theorem row_ofW {H : Type} {enc : TypeId × Value → H} {P : Program} {w : World} {held : Bool} {t e : TypeId} {fuel : Nat} {c : Value} {x : DataW H × List MemPlace}
    (ht : P.underlying t = some (.slice e)) (he : P.underlying e = some (.int .i64)) (hce : P.cellsOf e = 1) (h : DataW.trod enc P w 0 (fun _ => true) held fuel t [c] = some x) :
    ∃ (ra : Option Addr) (rn rc : Nat) (Q : Nat → Int), c = .slice ra rn rc ∧ rn ≤ 9223372036854775807 ∧ (0 < rn → ∃ b o, ra = some ⟨b, o, none⟩ ∧ b < w.heap.size ∧ ∀ j, j < rn → w.cell? ⟨b, o + j, none⟩ = some (.int .i64 (Q j)) ∧ -9223372036854775808 ≤ Q j ∧ Q j ≤ 9223372036854775807) ∧ (0 < rn → ∃ elems spare, x.1 = .slice elems spare ∧ elems.length = rn) := by
  rcases open_slice ht h with ⟨hcs, _⟩ | ⟨a, len, cap, m, n, D, Pl, hcs, _, hl, hm, hmm, hxx, hx⟩
  · cases hcs
    exact ⟨none, 0, 0, fun _ => 0, rfl, by omega, fun h => absurd h (by omega), fun h => absurd h (by omega)⟩
  · cases hcs
    simp only [if_true] at hmm
    subst hmm
    have each : ∀ i, i < len → ∃ z : Int, w.cell? (a.add (i * 1 + 0)) = some (.int .i64 z) ∧ (Lit.int .i64 z).wf = true := by
      intro i hi
      obtain ⟨cs', h1, h2⟩ := hx i (by omega)
      rw [hce] at h1
      obtain ⟨_, hlen, hcell⟩ := World.cells?_some h1
      obtain ⟨z, hz, _, hw⟩ := DataW.trod_int he h2
      refine ⟨z, ?_, hw⟩
      have e1 := hcell 0 (by omega)
      rw [add_add] at e1
      rw [e1, hz]; rfl
    obtain ⟨Q, hQ⟩ := choose_lt (α := Int) each
    refine ⟨some a, len, _, Q, rfl, by unfold maxLen at hm; omega, fun hn => ?_, fun _ => ⟨_, _, by rw [hxx], by simp⟩⟩
    obtain ⟨b, off, spot⟩ := a
    have hc0 := (hQ 0 hn).1
    have hspot : spot = none := by simpa [Addr.add] using World.cell?_spot hc0
    subst hspot
    refine ⟨b, off, rfl, ?_, fun j hj => ?_⟩
    · rw [Addr.add_lit] at hc0; exact World.block_lt_of_cell? w _ hc0
    · have h1 := hQ j hj
      refine ⟨?_, wf_range h1.2⟩
      have h2 := h1.1
      rw [Addr.add_lit] at h2
      simpa using h2
theorem bulk_rows {H : Type} {d : DataW H} {n : Nat} (h : 0 < n → ∃ elems spare, d = .slice elems spare ∧ elems.length = n) : n ≤ Rows.uptoBulk d := by
  rcases Nat.eq_zero_or_pos n with h0 | h0
  · omega
  · obtain ⟨elems, spare, rfl, hl⟩ := h h0
    have := bulk_length elems
    simp only [Rows.uptoBulk]; omega
/- lists of numbers that came in -/
theorem rows_ofW {H : Type} {enc : TypeId × Value → H} {P : Program} {w : World} {held : Bool} {t e f : TypeId} {fuel : Nat} {c : Value} {x : DataW H × List MemPlace} {be bf : Nat}
    (ht : P.underlying t = some (.slice e)) (he : P.underlying e = some (.slice f)) (hf : P.underlying f = some (.int .i64)) (hce : P.cellsOf e = 1) (hcf : P.cellsOf f = 1) (hbe : P.bytesOf e = be) (hbf : P.bytesOf f = bf) (hw : (x.1.weights P t).all (· ≤ reachBytes) = true) (h : DataW.trod enc P w 0 (fun _ => true) held fuel t [c] = some x) :
    ∃ ao len cap ra rn rc Q, c = .slice ao len cap ∧ LRowsZ w ao len ra rn rc Q ∧ len * be ≤ 140737488355328 ∧ len ≤ Rows.uptoBulk x.1 ∧ ∀ i, i < len → rn i * bf ≤ 140737488355328 ∧ rn i ≤ Rows.uptoBulk x.1 := by
  rcases open_slice ht h with ⟨hcs, _⟩ | ⟨a, len, cap, m, n, D, Pl, hcs, _, hl, hm, hmm, hxx, hx⟩
  · cases hcs
    exact ⟨none, 0, 0, fun _ => none, fun _ => 0, fun _ => 0, fun _ _ => 0, rfl, fun h => absurd h (by omega), by omega, by omega, fun i h => absurd h (by omega)⟩
  · cases hcs
    simp only [if_true] at hmm
    subst hmm
    have hel : 0 < len → ∃ elems spare, x.1 = .slice elems spare ∧ elems.length = len := fun _ => ⟨_, _, by rw [hxx], by simp⟩
    have each : ∀ i, i < len → ∃ z : Option Addr × Nat × Nat × (Nat → Int), w.cell? (a.add (i * 1 + 0)) = some (.slice z.1 z.2.1 z.2.2.1) ∧ z.2.1 ≤ 9223372036854775807 ∧ (0 < z.2.1 → ∃ b o, z.1 = some ⟨b, o, none⟩ ∧ b < w.heap.size ∧ ∀ j, j < z.2.1 → w.cell? ⟨b, o + j, none⟩ = some (.int .i64 (z.2.2.2 j)) ∧ -9223372036854775808 ≤ z.2.2.2 j ∧ z.2.2.2 j ≤ 9223372036854775807) ∧ z.2.1 * bf ≤ 140737488355328 ∧ z.2.1 ≤ Rows.uptoBulk x.1 := by
      intro i hi
      obtain ⟨cs', h1, h2⟩ := hx i (by omega)
      rw [hce] at h1
      obtain ⟨_, hlen, hcell⟩ := World.cells?_some h1
      obtain ⟨ci, hci⟩ : ∃ ci, cs' = [ci] := by
        match cs', hlen with
        | [ci], _ => exact ⟨ci, rfl⟩
      rw [hci] at h2
      obtain ⟨ra, rn, rc, Q, rfl, h3, h4, h5⟩ := row_ofW (x := (D i, Pl i)) he hf hcf h2
      have hwi : ((D i).weights P e).all (· ≤ reachBytes) = true := by
        rw [hxx] at hw
        exact all_elem ht hw (by simp; exact ⟨i, hi, rfl⟩)
      have hb1 := bulk_rows h5
      have hb2 := bulk_part (l := (List.range len).map D) (d := D i) (List.mem_map.2 ⟨i, by simpa using hi, rfl⟩)
      refine ⟨(ra, rn, rc, Q), ?_, h3, h4, list_room hbf he hwi h5, by rw [hxx]; simp only [Rows.uptoBulk]; simp only at hb1; omega⟩
      have e1 := hcell 0 (by omega)
      rw [add_add] at e1
      rw [e1, hci]; rfl
    obtain ⟨Z, hZ⟩ := choose_lt (α := Option Addr × Nat × Nat × (Nat → Int)) each
    refine ⟨some a, len, _, fun i => (Z i).1, fun i => (Z i).2.1, fun i => (Z i).2.2.1, fun i => (Z i).2.2.2, rfl, fun hn => ?_, list_room hbe ht hw hel, bulk_rows hel, fun i hi => (hZ i hi).2.2.2⟩
    obtain ⟨b, off, spot⟩ := a
    have hc0 := (hZ 0 hn).1
    have hspot : spot = none := by simpa [Addr.add] using World.cell?_spot hc0
    subst hspot
    refine ⟨b, off, rfl, ?_, fun i hi => ?_⟩
    · rw [Addr.add_lit] at hc0; exact World.block_lt_of_cell? w _ hc0
    · have h1 := hZ i hi
      refine ⟨?_, h1.2.1, h1.2.2.1⟩
      have h2 := h1.1
      rw [Addr.add_lit] at h2
      simpa using h2
/- nodes that came in -/
set_option maxRecDepth 100000 in
theorem nodes_ofW {H : Type} {enc : TypeId × Value → H} {w : World} {held : Bool} {fuel : Nat} {c : Value} {x : DataW H × List MemPlace} (hw : (x.1.weights Tryz.prog 56).all (· ≤ reachBytes) = true) (h : DataW.trod enc Tryz.prog w 0 (fun _ => true) held fuel 56 [c] = some x) :
    ∃ ao len cap kd ra rn rc Q, c = .slice ao len cap ∧ NodesZ w ao len kd ra rn rc Q ∧ len * 32 ≤ 140737488355328 ∧ len ≤ Rows.uptoBulk x.1 ∧ ∀ i, i < len → rn i * 8 ≤ 140737488355328 ∧ rn i ≤ Rows.uptoBulk x.1 := by
  have hce : Tryz.prog.cellsOf 76 = 2 := by kernel_rfl
  have hc1 : Tryz.prog.cellsOf 3 = 1 := by kernel_rfl
  have hc2 : Tryz.prog.cellsOf 40 = 1 := by kernel_rfl
  have hbe : Tryz.prog.bytesOf 76 = 32 := by kernel_rfl
  have hbf : Tryz.prog.bytesOf 3 = 8 := by kernel_rfl
  rcases open_slice Tryz.underlying56 h with ⟨hcs, _⟩ | ⟨a, len, cap, m, n, D, Pl, hcs, _, hl, hm, hmm, hxx, hx⟩
  · cases hcs
    exact ⟨none, 0, 0, fun _ => 0, fun _ => none, fun _ => 0, fun _ => 0, fun _ _ => 0, rfl, fun h => absurd h (by omega), by omega, by omega, fun i h => absurd h (by omega)⟩
  · cases hcs
    simp only [if_true] at hmm
    subst hmm
    have hel : 0 < len → ∃ elems spare, x.1 = .slice elems spare ∧ elems.length = len := fun _ => ⟨_, _, by rw [hxx], by simp⟩
    have each : ∀ i, i < len → ∃ z : Int × Option Addr × Nat × Nat × (Nat → Int), w.cell? (a.add (i * 2 + 0)) = some (.int .i64 z.1) ∧ (-9223372036854775808 ≤ z.1 ∧ z.1 ≤ 9223372036854775807) ∧ w.cell? (a.add (i * 2 + 1)) = some (.slice z.2.1 z.2.2.1 z.2.2.2.1) ∧ z.2.2.1 ≤ 9223372036854775807 ∧ (0 < z.2.2.1 → ∃ b o, z.2.1 = some ⟨b, o, none⟩ ∧ b < w.heap.size ∧ ∀ j, j < z.2.2.1 → w.cell? ⟨b, o + j, none⟩ = some (.int .i64 (z.2.2.2.2 j)) ∧ -9223372036854775808 ≤ z.2.2.2.2 j ∧ z.2.2.2.2 j ≤ 9223372036854775807) ∧ z.2.2.1 * 8 ≤ 140737488355328 ∧ z.2.2.1 ≤ Rows.uptoBulk x.1 := by
      intro i hi
      obtain ⟨cs', h1, h2⟩ := hx i (by omega)
      rw [hce] at h1
      obtain ⟨_, hlen, hcell⟩ := World.cells?_some h1
      obtain ⟨xs, n2, _, hxe, hlen2, hxl, hfl⟩ := DataW.trod_struct Tryz.underlying76 h2
      obtain ⟨c0, c1, hci⟩ : ∃ c0 c1, cs' = [c0, c1] := by
        match cs', hlen with
        | [c0, c1], _ => exact ⟨c0, c1, rfl⟩
      subst hci
      obtain ⟨y0, e0⟩ : ∃ y, xs[0]? = some y := ⟨_, List.getElem?_eq_getElem (by rw [hxl]; exact Nat.zero_lt_two)⟩
      obtain ⟨y1, e1⟩ : ∃ y, xs[1]? = some y := ⟨_, List.getElem?_eq_getElem (by rw [hxl]; exact Nat.one_lt_two)⟩
      have g0 : DataW.trod enc Tryz.prog w 0 (fun _ => true) held n2 3 [c0] = some y0 := by simpa [hc1] using (hfl 0 _ rfl).trans e0
      have g1 : DataW.trod enc Tryz.prog w 0 (fun _ => true) held n2 40 [c1] = some y1 := by simpa [hc2] using (hfl 1 _ rfl).trans e1
      obtain ⟨z0, rfl, hz0⟩ := int_shape Tryz.underlying3 g0
      obtain ⟨ra, rn, rc, Q, rfl, h3, h4, h5⟩ := row_ofW Tryz.underlying40 Tryz.underlying3 hc1 g1
      have hwi : ((D i).weights Tryz.prog 76).all (· ≤ reachBytes) = true := by
        rw [hxx] at hw
        exact all_elem Tryz.underlying56 hw (by simp; exact ⟨i, hi, rfl⟩)
      have hDi : D i = .agg (xs.map (·.1)) := congrArg (·.1) hxe
      have hwl : (y1.1.weights Tryz.prog 40).all (· ≤ reachBytes) = true := by
        rw [hDi] at hwi
        refine all_part (ts := [3, 40]) (ds := xs.map (·.1)) (j := 1) ?_ rfl (by rw [List.getElem?_map, e1]; rfl)
        simpa [DataW.weights, Tryz.underlying76] using hwi
      have hb1 := bulk_rows h5
      have hb2 := bulk_part (l := (List.range len).map D) (d := D i) (List.mem_map.2 ⟨i, by simpa using hi, rfl⟩)
      have hb3 : Rows.uptoBulk y1.1 ≤ Rows.uptoBulk (D i) := by
        rw [hDi]
        have := bulk_part (l := xs.map (·.1)) (d := y1.1) (List.mem_map.2 ⟨y1, List.mem_of_getElem? e1, rfl⟩)
        simp only [Rows.uptoBulk]; omega
      have k0 := hcell 0 (by omega)
      have k1 := hcell 1 (by omega)
      rw [add_add] at k0 k1
      refine ⟨(z0, ra, rn, rc, Q), by rw [k0]; rfl, wf_range hz0, by rw [k1]; rfl, h3, h4, list_room hbf Tryz.underlying40 hwl h5, by rw [hxx]; simp only [Rows.uptoBulk]; omega⟩
    have : Nonempty (Int × Option Addr × Nat × Nat × (Nat → Int)) := ⟨(0, none, 0, 0, fun _ => 0)⟩
    obtain ⟨Z, hZ⟩ := choose_lt (α := Int × Option Addr × Nat × Nat × (Nat → Int)) each
    refine ⟨some a, len, _, fun i => (Z i).1, fun i => (Z i).2.1, fun i => (Z i).2.2.1, fun i => (Z i).2.2.2.1, fun i => (Z i).2.2.2.2, rfl, fun hn => ?_, list_room hbe Tryz.underlying56 hw hel, bulk_rows hel, fun i hi => (hZ i hi).2.2.2.2.2⟩
    obtain ⟨b, off, spot⟩ := a
    have hc0 := (hZ 0 hn).1
    have hspot : spot = none := by simpa [Addr.add] using World.cell?_spot hc0
    subst hspot
    refine ⟨b, off, rfl, ?_, fun i hi => ?_⟩
    · rw [Addr.add_lit] at hc0; exact World.block_lt_of_cell? w _ hc0
    · have h1 := hZ i hi
      have h2 := h1.1
      have h3 := h1.2.2.1
      rw [Addr.add_lit] at h2 h3
      exact ⟨by simpa using h2, h1.2.1, by simpa [Nat.add_assoc] using h3, h1.2.2.2.1, h1.2.2.2.2.1⟩
/- what is known of a step that came in -/
structure OpA (w : World) (o : OpV) (bulk : Nat) : Prop where
  n : -9223372036854775808 ≤ o.n ∧ o.n ≤ 9223372036854775807
  s : o.s.size ≤ maxLen ∧ o.s.size ≤ bulk
  t : o.t.size ≤ maxLen ∧ o.t.size ≤ bulk
  u : o.u.size ≤ maxLen ∧ o.u.size ≤ bulk
  x : ∃ S T, OpX w o S T
  m : ∃ ra rn rc Q, LRowsZ w o.am o.nm ra rn rc Q ∧ o.nm * 24 ≤ 140737488355328 ∧ o.nm ≤ bulk ∧ ∀ i, i < o.nm → rn i * 8 ≤ 140737488355328 ∧ rn i ≤ bulk
  l : ∃ kd ra rn rc Q, NodesZ w o.aL o.nL kd ra rn rc Q ∧ o.nL * 32 ≤ 140737488355328 ∧ o.nL ≤ bulk ∧ ∀ i, i < o.nL → rn i * 8 ≤ 140737488355328 ∧ rn i ≤ bulk
theorem open_opa {H : Type} {enc : TypeId × Value → H} {W : World} {held : Bool} {fuel : Nat} {cs : List Value} {x : DataW H × List MemPlace} (hw : (x.1.weights Tryz.prog 58).all (· ≤ reachBytes) = true) (h : DataW.trod enc Tryz.prog W 0 (fun _ => true) held fuel 58 cs = some x) :
    ∃ o : OpV, cs = o.vals.toList ∧ OpA W o (Rows.uptoBulk x.1) := by
  obtain ⟨o, ho, hs, ht, hu, S, T, hX⟩ := open_opx hw h
  subst ho
  have hbl := op_bulk o h
  have hc1 : Tryz.prog.cellsOf 3 = 1 := by kernel_rfl
  have hcs : Tryz.prog.cellsOf 9 = 1 := by kernel_rfl
  have hcm : Tryz.prog.cellsOf 31 = 1 := by kernel_rfl
  have hcl : Tryz.prog.cellsOf 56 = 1 := by kernel_rfl
  obtain ⟨xs, n, _, hxe, _, hxl, hfl⟩ := DataW.trod_struct Tryz.underlying58 h
  have hxl8 : xs.length = 8 := hxl
  have e1 : xs[1]? = some xs[1] := List.getElem?_eq_getElem (by omega)
  have e2 : xs[2]? = some xs[2] := List.getElem?_eq_getElem (by omega)
  have e5 : xs[5]? = some xs[5] := List.getElem?_eq_getElem (by omega)
  have e7 : xs[7]? = some xs[7] := List.getElem?_eq_getElem (by omega)
  have g1 : DataW.trod enc Tryz.prog W 0 (fun _ => true) held n 3 [.int .i64 o.n] = some xs[1] := by simpa [hc1, OpV.vals] using (hfl 1 _ rfl).trans e1
  have g2 : DataW.trod enc Tryz.prog W 0 (fun _ => true) held n 9 [.string o.s] = some xs[2] := by simpa [hcs, OpV.vals] using (hfl 2 _ rfl).trans e2
  have g5 : DataW.trod enc Tryz.prog W 0 (fun _ => true) held n 31 [.slice o.am o.nm o.cm] = some xs[5] := by simpa [hcm, OpV.vals] using (hfl 5 _ rfl).trans e5
  have g7 : DataW.trod enc Tryz.prog W 0 (fun _ => true) held n 56 [.slice o.aL o.nL o.cL] = some xs[7] := by simpa [hcl, OpV.vals] using (hfl 7 _ rfl).trans e7
  have w5 : ((xs[5]).1.weights Tryz.prog 31).all (· ≤ reachBytes) = true := by
    rw [hxe] at hw
    refine all_part (ts := opTypes) (ds := xs.map (·.1)) (j := 5) ?_ rfl (by rw [List.getElem?_map, e5]; rfl)
    simpa [DataW.weights, Tryz.underlying58, opTypes] using hw
  have w7 : ((xs[7]).1.weights Tryz.prog 56).all (· ≤ reachBytes) = true := by
    rw [hxe] at hw
    refine all_part (ts := opTypes) (ds := xs.map (·.1)) (j := 7) ?_ rfl (by rw [List.getElem?_map, e7]; rfl)
    simpa [DataW.weights, Tryz.underlying58, opTypes] using hw
  have hbp : ∀ j (hj : j < xs.length), Rows.uptoBulk (xs[j]).1 ≤ Rows.uptoBulk x.1 := fun j hj => by
    rw [hxe]
    have := bulk_part (l := xs.map (·.1)) (d := (xs[j]).1) (List.mem_map.2 ⟨_, List.getElem_mem hj, rfl⟩)
    simp only [Rows.uptoBulk]; omega
  obtain ⟨z, hz, _, hwf⟩ := DataW.trod_int Tryz.underlying3 g1
  cases hz
  obtain ⟨z2, hz2, hy2, _⟩ := DataW.trod_string Tryz.underlying9 g2
  cases hz2
  obtain ⟨am, nm, cm, ra, rn, rc, Q, hv, hL, hr1, hr2, hr3⟩ := rows_ofW Tryz.underlying31 Tryz.underlying40 Tryz.underlying3 (by kernel_rfl) (by kernel_rfl) (be := 24) (bf := 8) (by kernel_rfl) (by kernel_rfl) w5 g5
  cases hv
  obtain ⟨aL, nL, cL, kd, ra', rn', rc', Q', hv', hN, hq1, hq2, hq3⟩ := nodes_ofW w7 g7
  cases hv'
  have b2 := hbp 2 (by omega)
  have b5 := hbp 5 (by omega)
  have b7 := hbp 7 (by omega)
  refine ⟨o, rfl, wf_range hwf, ⟨hs, ?_⟩, ⟨ht, hbl.1⟩, ⟨hu, hbl.2⟩, ⟨S, T, hX⟩, ⟨ra, rn, rc, Q, hL, hr1, by omega, fun i hi => ⟨(hr3 i hi).1, by have := (hr3 i hi).2; omega⟩⟩, ⟨kd, ra', rn', rc', Q', hN, hq1, by omega, fun i hi => ⟨(hq3 i hi).1, by have := (hq3 i hi).2; omega⟩⟩⟩
  rw [hy2] at b2
  simp only [Rows.uptoBulk] at b2
  simp at b2
  omega
/- a script that came in -/
theorem open_scripta {H : Type} {enc : TypeId × Value → H} {W : World} {held : Bool} {fuel : Nat} {v : Value} {x : DataW H × List MemPlace} (hw : (x.1.weights Tryz.prog 22).all (· ≤ reachBytes) = true) (h : DataW.trod enc Tryz.prog W 0 (fun _ => true) held fuel 22 [v] = some x) :
    ∃ ao n c ops, v = .slice ao n c ∧ ScriptAt W ao n ops ∧ (∀ i, i < n → OpA W (ops i) (Rows.uptoBulk x.1)) ∧ (0 < n → ∃ elems spare, x.1 = .slice elems spare ∧ elems.length = n) := by
  have hC : Tryz.prog.cellsOf 58 = 14 := by kernel_rfl
  rcases open_slice Tryz.underlying22 h with ⟨hcs, _⟩ | ⟨a, len, cap, m, n, D, Pl, hcs, _, hl, hm, hmm, hxx, hx⟩
  · cases hcs
    exact ⟨none, 0, 0, fun _ => ⟨0, 0, .empty, .empty, .empty, none, 0, 0, 0, 0, 0, 0, 0, none, 0, 0, none, 0, 0, none, 0, 0⟩, rfl, fun h => absurd h (by omega), fun i hi => absurd hi (by omega), fun h => absurd h (by omega)⟩
  · cases hcs
    simp only [if_true] at hmm
    subst hmm
    have each : ∀ i, i < len → ∃ o : OpV, (∀ j, j < 14 → W.cell? (a.add (i * 14 + j)) = o.vals[j]?) ∧ OpA W o (Rows.uptoBulk x.1) := by
      intro i hi
      obtain ⟨cs', h1, h2⟩ := hx i (by omega)
      rw [hC] at h1
      obtain ⟨_, hlen, hcell⟩ := World.cells?_some h1
      obtain ⟨o, ho, hs⟩ := open_opa (x := (D i, Pl i)) (by
        rw [hxx] at hw
        exact all_elem Tryz.underlying22 hw (by simp; exact ⟨i, hi, rfl⟩)) h2
      have hb : Rows.uptoBulk (D i) ≤ Rows.uptoBulk x.1 := by
        have := bulk_part (l := (List.range len).map D) (d := D i) (List.mem_map.2 ⟨i, by simpa using hi, rfl⟩)
        rw [hxx]; simp only [Rows.uptoBulk]; omega
      obtain ⟨ra, rn, rc, Q, m1, m2, m3, m4⟩ := hs.m
      obtain ⟨kd, ra', rn', rc', Q', l1, l2, l3, l4⟩ := hs.l
      refine ⟨o, fun j hj => ?_, hs.n, ⟨hs.s.1, Nat.le_trans hs.s.2 hb⟩, ⟨hs.t.1, Nat.le_trans hs.t.2 hb⟩, ⟨hs.u.1, Nat.le_trans hs.u.2 hb⟩, hs.x, ⟨ra, rn, rc, Q, m1, m2, Nat.le_trans m3 hb, fun i hi => ⟨(m4 i hi).1, Nat.le_trans (m4 i hi).2 hb⟩⟩, ⟨kd, ra', rn', rc', Q', l1, l2, Nat.le_trans l3 hb, fun i hi => ⟨(l4 i hi).1, Nat.le_trans (l4 i hi).2 hb⟩⟩⟩
      have e1 := hcell j (by omega)
      rw [add_add] at e1
      rw [e1, ho]; simp
    have : Nonempty OpV := ⟨⟨0, 0, .empty, .empty, .empty, none, 0, 0, 0, 0, 0, 0, 0, none, 0, 0, none, 0, 0, none, 0, 0⟩⟩
    obtain ⟨ops, hops⟩ : ∃ ops : Nat → OpV, ∀ i, i < len → (∀ j, j < 14 → W.cell? (a.add (i * 14 + j)) = (ops i).vals[j]?) ∧ OpA W (ops i) (Rows.uptoBulk x.1) := by
      refine ⟨fun i => if h : i < len then Classical.choose (each i h) else Classical.choice this, fun i hi => ?_⟩
      simp only [hi, dif_pos]
      exact Classical.choose_spec (each i hi)
    refine ⟨some a, len, _, ops, rfl, fun hn => ?_, fun i hi => (hops i hi).2, fun _ => ⟨_, _, by rw [hxx], by simp⟩⟩
    obtain ⟨b, off, spot⟩ := a
    have hc0 : W.cell? (Addr.add ⟨b, off, spot⟩ (0 * 14 + 0)) = some (.int .i64 (ops 0).k) := (hops 0 hn).1 0 (by omega)
    have hspot : spot = none := by simpa [Addr.add] using World.cell?_spot hc0
    subst hspot
    refine ⟨b, off, rfl, ?_, fun i j hi hj => ?_⟩
    · rw [Addr.add_lit] at hc0; exact World.block_lt_of_cell? W _ hc0
    · have h1 := (hops i hi).1 j hj
      rw [Addr.add_lit, ← Nat.add_assoc] at h1
      exact h1
end Go.Proofs.YtebinaopncclgabGreatDoor
