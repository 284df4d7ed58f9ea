/- A script that comes in is opened, with its bulk. -/
import Derived.Test.YtebinaopncclgabGreatDoorOpenS
import Derived.Test.YtebinaopncclgabGreatDoorRows
namespace Go.Proofs.YtebinaopncclgabGreatDoor
open Go.ChangeShapes Go.WideShapes Go.ChangeAt Go.RowKit Go.Deep

theorem bulk_one {H : Type} (d : DataW H) : 1 ≤ Rows.uptoBulk d := by
  cases d with
  | lit l => cases l <;> simp [Rows.uptoBulk]
  | nil => simp [Rows.uptoBulk]
  | ptr d => simp [Rows.uptoBulk]
  | slice elems spare => simp [Rows.uptoBulk]
  | agg parts => simp [Rows.uptoBulk]
  | iface t d => simp [Rows.uptoBulk]
  | map entries => simp [Rows.uptoBulk]
  | held h => simp [Rows.uptoBulk]
theorem bulk_part {H : Type} {d : DataW H} {l : List (DataW H)} (h : d ∈ l) : Rows.uptoBulk d ≤ Rows.uptoBulkAll l := by
  induction l with
  | nil => cases h
  | cons x r ih =>
    simp only [Rows.uptoBulkAll]
    rcases List.mem_cons.1 h with e | e
    · subst e; omega
    · have := ih e; omega
theorem bulk_length {H : Type} (l : List (DataW H)) : l.length ≤ Rows.uptoBulkAll l := by
  induction l with
  | nil => simp [Rows.uptoBulkAll]
  | cons x r ih => have := bulk_one x; simp only [Rows.uptoBulkAll, List.length_cons]; omega
theorem op_bulk {H : Type} {enc : TypeId × Value → H} {W : World} {base : Nat} {spare : Nat → Bool} {held : Bool} {fuel : Nat} {x : DataW H × List MemPlace} (o : OpV) (h : DataW.trod enc Tryz.prog W base spare held fuel 58 o.vals.toList = some x) : o.t.size ≤ Rows.uptoBulk x.1 ∧ o.u.size ≤ Rows.uptoBulk x.1 := by
  have hcs : Tryz.prog.cellsOf 9 = 1 := by kernel_rfl
  obtain ⟨xs, n, _, rfl, _, hxl, hfl⟩ := DataW.trod_struct Tryz.underlying58 h
  have hxl8 : xs.length = 8 := hxl
  have e3 : xs[3]? = some xs[3] := List.getElem?_eq_getElem (by omega)
  have g3 : DataW.trod enc Tryz.prog W base spare held n 9 [.string o.t] = some xs[3] := by simpa [hcs, OpV.vals] using (hfl 3 _ rfl).trans e3
  have e4 : xs[4]? = some xs[4] := List.getElem?_eq_getElem (by omega)
  have g4 : DataW.trod enc Tryz.prog W base spare held n 9 [.string o.u] = some xs[4] := by simpa [hcs, OpV.vals] using (hfl 4 _ rfl).trans e4
  obtain ⟨z, hz, hy, _⟩ := DataW.trod_string Tryz.underlying9 g3
  cases hz
  obtain ⟨z, hz, hy4, _⟩ := DataW.trod_string Tryz.underlying9 g4
  cases hz
  have hm : (xs[3]).1 ∈ xs.map (·.1) := List.mem_map.2 ⟨_, List.getElem_mem _, rfl⟩
  have hp := bulk_part hm
  have hm4 : (xs[4]).1 ∈ xs.map (·.1) := List.mem_map.2 ⟨_, List.getElem_mem _, rfl⟩
  have hp4 := bulk_part hm4
  rw [hy] at hp
  rw [hy4] at hp4
  simp only [Rows.uptoBulk] at hp hp4 ⊢
  simp at hp hp4
  omega

/- a script that came in, and how great it is -/
theorem open_scriptu {H : Type} {enc : TypeId × Value → H} {W : World} {held : Bool} {fuel : Nat} {v : Value} {x : DataW H × List MemPlace} (h : DataW.trod enc Tryz.prog W 0 (fun _ => true) held fuel 22 [v] = some x) :
    ∃ ao n c ops, v = .slice ao n c ∧ ScriptAt W ao n ops ∧ (∀ i, i < n → (ops i).s.size ≤ maxLen ∧ (ops i).t.size ≤ Rows.uptoBulk x.1 ∧ (ops i).u.size ≤ Rows.uptoBulk x.1) ∧ n ≤ Rows.uptoBulk x.1 := by
  have hC : Tryz.prog.cellsOf 58 = 14 := by kernel_rfl
  rcases open_slice Tryz.underlying22 h with ⟨hcs, _⟩ | ⟨a, len, cap, m, n, D, Pl, hcs, _, hl, hm, hmm, hxx, hx⟩
  · cases hcs
    exact ⟨none, 0, 0, fun _ => ⟨0, 0, .empty, .empty, .empty, none, 0, 0, 0, 0, 0, 0, 0, none, 0, 0, none, 0, 0, none, 0, 0⟩, rfl, fun h => absurd h (by omega), fun i hi => absurd hi (by omega), Nat.zero_le _⟩
  · cases hcs
    simp only [if_true] at hmm
    subst hmm
    have each : ∀ i, i < len → ∃ o : OpV, (∀ j, j < 14 → W.cell? (a.add (i * 14 + j)) = o.vals[j]?) ∧ o.s.size ≤ maxLen ∧ o.t.size ≤ Rows.uptoBulk x.1 ∧ o.u.size ≤ Rows.uptoBulk x.1 := by
      intro i hi
      obtain ⟨cs', h1, h2⟩ := hx i (by omega)
      rw [hC] at h1
      obtain ⟨_, hlen, hcell⟩ := World.cells?_some h1
      obtain ⟨o, ho, hs⟩ := open_op h2
      have hb : o.t.size ≤ Rows.uptoBulk (D i) ∧ o.u.size ≤ Rows.uptoBulk (D i) := op_bulk (x := (D i, Pl i)) o (by rw [← ho]; exact h2)
      have hp := bulk_part (l := (List.range len).map D) (d := D i) (List.mem_map.2 ⟨i, by simpa using hi, rfl⟩)
      refine ⟨o, fun j hj => ?_, hs.1, by rw [hxx]; simp only [Rows.uptoBulk]; omega, by rw [hxx]; simp only [Rows.uptoBulk]; omega⟩
      have e1 := hcell j (by omega)
      rw [add_add] at e1
      rw [e1, ho]; simp
    have : Nonempty OpV := ⟨⟨0, 0, .empty, .empty, .empty, none, 0, 0, 0, 0, 0, 0, 0, none, 0, 0, none, 0, 0, none, 0, 0⟩⟩
    obtain ⟨ops, hops⟩ : ∃ ops : Nat → OpV, ∀ i, i < len → (∀ j, j < 14 → W.cell? (a.add (i * 14 + j)) = (ops i).vals[j]?) ∧ (ops i).s.size ≤ maxLen ∧ (ops i).t.size ≤ Rows.uptoBulk x.1 ∧ (ops i).u.size ≤ Rows.uptoBulk x.1 := by
      refine ⟨fun i => if h : i < len then Classical.choose (each i h) else Classical.choice this, fun i hi => ?_⟩
      simp only [hi, dif_pos]
      exact Classical.choose_spec (each i hi)
    refine ⟨some a, len, _, ops, rfl, fun hn => ?_, fun i hi => (hops i hi).2, by have h1 := bulk_length ((List.range len).map D); rw [hxx]; simp only [Rows.uptoBulk]; simp at h1; omega⟩
    obtain ⟨b, off, spot⟩ := a
    have hc0 : W.cell? (Addr.add ⟨b, off, spot⟩ (0 * 14 + 0)) = some (.int .i64 (ops 0).k) := (hops 0 hn).1 0 (by omega)
    have hspot : spot = none := by simpa [Addr.add] using World.cell?_spot hc0
    subst hspot
    refine ⟨b, off, rfl, ?_, fun i j hi hj => ?_⟩
    · rw [Addr.add_lit] at hc0; exact World.block_lt_of_cell? W _ hc0
    · have h1 := (hops i hi).1 j hj
      rw [Addr.add_lit, ← Nat.add_assoc] at h1
      exact h1
end Go.Proofs.YtebinaopncclgabGreatDoor
