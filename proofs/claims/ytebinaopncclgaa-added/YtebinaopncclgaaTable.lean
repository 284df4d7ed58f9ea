/- Walks: the sites' nodes, the table of ways. -/
import Derived.Test.YtebinaopncclgaaNet
import Derived.Test.YtebinaopncclgaaBent
import Derived.Test.YtebinaopncclgaaTextI
namespace Go.Proofs.Ytebinaopncclgaa
open Go.RowKit Go.IntWalk

def sites (r : Rd) : List Int := r.home :: r.stops.map (fun s => s.getD 0 0)
theorem sites_length (r : Rd) : (sites r).length = r.stops.length + 1 := by simp [sites]

set_option maxRecDepth 100000 in
set_option maxHeartbeats 2000000 in
theorem siteNodes_any (B B' : Nat) (r : Rd) (vs vr : Value) (w : World) (hn : RdNice r) (hs : w.ownsRow B 60 5 vs r.stops.length (ints r.stops.flatten)) (hr : w.ownsRow B' 35 3 vr r.roads.length (ints r.roads.flatten)) :
    Calls Try.prog 45 #[inst r vs vr] w fun e w' => ∃ v, e = .returned v ∧ w'.ownsRow w.heap.size 3 1 v (r.stops.length + 1) (ints (sites r)) ∧ Below w.heap.size w w' := by
  obtain ⟨i0, hi, hz0, hz1, hz2⟩ := info_parts Try.infoInt
  have hns := hn.nstops
  obtain ⟨aos, caps, rfl, has, hsn⟩ := own_val hs
  obtain ⟨aor, capr, rfl, har, hrn⟩ := own_val hr
  have HS := hide hs
  have HN := hide hn
  have HAS := hide has
  have HSN := hide hsn
  clear hs hr hn has hsn har hrn
  unfold inst
  go_enter Try.func45, Try.ntmps45
  go_wp2_with fail
  obtain ⟨bx, hbx⟩ : ∃ bx, bx = (w.alloc (.cells #[.int .i64 r.vans, .int .i64 r.load, .int .i64 r.close, .int .i64 r.nodes, .int .i64 r.home, .slice aos r.stops.length caps, .slice aor r.roads.length capr] 25)) := ⟨_, rfl⟩
  have HB5 : Hid (bx.cell? ⟨w.heap.size, 5, none⟩ = some (.slice aos r.stops.length caps)) := by show _ = _; rw [hbx]; simp [go_sem]
  have hbs : w.heap.size + 1 ≤ bx.heap.size := by rw [hbx]; simp
  have HBX := hide hbx
  clear hbx
  go_loopw [3, 4] (fun v i wr => ∃ k : Nat, i = .int .i64 k ∧ k ≤ r.stops.length ∧ Hid (wr.ownsRow (w.heap.size + 1) 3 1 v (k + 1) (ints ((sites r).take (k + 1)))) ∧ Hid (Below w.heap.size w wr) ∧ Hid (Below (w.heap.size + 1) bx wr)) (fun _ i _ => r.stops.length - (intOf i).toNat)
  case atStart =>
    refine ⟨0, rfl, by omega, ?_, below2 _ _ _, ?_⟩
    · have := World.ownsRow_lit (base := w.heap.size + 1) (e := 3) (size := 1) (w.alloc (.cells #[.int .i64 r.vans, .int .i64 r.load, .int .i64 r.close, .int .i64 r.nodes, .int .i64 r.home, .slice aos r.stops.length caps, .slice aor r.roads.length capr] 25)) #[.int .i64 r.home] 1 (by simp) (by unfold maxLen; omega) rfl
      show World.ownsRow _ _ _ _ _ _ _
      simpa [sites, ints] using this
    · show Below _ _ _
      rw [HBX.out]; exact (Below.refl _ _).alloc (by simp) _
  case round =>
    obtain ⟨k, rfl, hk, HO, HW, HBW⟩ := hrel
    have d5 : wr.cell? ⟨w.heap.size, 5, none⟩ = some (.slice aos r.stops.length caps) := (HBW.out.cell (by simp)).trans HB5.out
    have hsz : w.heap.size + 1 ≤ wr.heap.size := Nat.le_trans hbs HBW.out.size
    obtain ⟨g1, cap1, cur1, rfl, hg1, _, hcap1⟩ := own_shape HO.out (by omega)
    by_cases hlt : k < r.stops.length
    · obtain ⟨g, rfl, hgl⟩ := some_of HAS.out HSN.out (by omega)
      obtain ⟨a, b, c, d, e, hab⟩ := five (HN.out.stops _ (List.getElem_mem hlt)).1
      have hcl : ∀ j z, j < 5 → r.stops[k][j]? = some z → wr.cell? ⟨g, k * 5 + j, none⟩ = some (.int .i64 z) := by
        intro j z hj hz
        rw [HW.out.cell (by exact hgl), HS.out.cellAt (k * 5 + j) (by omega)]
        exact flat_ints (fun s hs => (HN.out.stops s hs).1) hlt hj hz
      rw [hab] at hcl
      have x0 : wr.cell? ⟨g, k * 5, none⟩ = some (.int .i64 a) := hcl 0 a (by omega) rfl
      have HT : Hid ((sites r).take (k + 1 + 1) = (sites r).take (k + 1) ++ [a]) := by
        show _ = _
        rw [List.take_succ_eq_append_getElem (by rw [sites_length]; omega)]
        simp [sites, hab]
      clear hcl hab
      have hgw : g < wr.heap.size := by omega
      go_wp2_with (first
        | (at_builtin; refine wpList_append_own _ rfl _ _ 37 rfl (w.heap.size + 1) 3 i0 (.int .i64 0) 1 8 Try.underlying37 hi hz0 hz1 hz2 rfl (by decide) _ _ _ rfl (HO.out.alloc _) ⟨wr.heap.size, 0, none⟩ 1 1 [.int .i64 a] rfl rfl ?c1 ?c2 ?c3 ?c4 ?c5 ?_)
        | go_in)
      case c1 => exact cell_one_new _ _ _
      case c2 => intro u hu; simp at hu; subst hu; rfl
      case c3 => unfold maxLen; omega
      case c4 => omega
      case c5 => simp; omega
      intro v' w2 hown' hgrow _
      have HO' := hide hown'
      have HG := hide hgrow
      clear hown' hgrow d5 x0
      go_wp2
      go_roundw
      case rel =>
        refine ⟨k + 1, by go_num, by omega, ?_, ?_, ?_⟩
        · show World.ownsRow _ _ _ _ _ _ _
          rw [HT.out, ints_append]; exact HO'.out
        · exact (HW.out.alloc (by omega) _).grown HG.out (by simp; omega) (fun q hq => by have := (HO.out.lt q hq).1; omega)
        · refine (HBW.out.alloc (by omega) _).grown HG.out (by simp; omega) (fun q hq => ?_)
          exact (HO.out.lt q hq).1
      case measure => simp [intOf]; omega
    · go_wp2
      go_ret
      have hke : k = r.stops.length := by omega
      subst hke
      refine ⟨_, rfl, ?_, HW.out⟩
      have h := HO.out
      rw [List.take_of_length_le (by rw [sites_length]; omega)] at h
      exact own_base h (by omega)

/- a table of numbers in memory, from block B on: n rows of n -/
def Grid (w : World) (B : Nat) (v : Value) (n : Nat) (D : Nat → Nat → Int) : Prop :=
  ∃ g, v = .slice (some ⟨g, 0, none⟩) n n ∧ (B ≤ g ∧ g < w.heap.size) ∧ ∀ i, i < n → ∃ gi, w.cell? ⟨g, i, none⟩ = some (.slice (some ⟨gi, 0, none⟩) n n) ∧ (B ≤ gi ∧ gi < w.heap.size) ∧ ∀ j, j < n → w.cell? ⟨gi, j, none⟩ = some (.int .i64 (D i j))
theorem Grid.kept {w w' : World} {B : Nat} {v : Value} {n : Nat} {D : Nat → Nat → Int} (h : Grid w B v n D) (hs : w.heap.size ≤ w'.heap.size) (hb : ∀ k, B ≤ k → k < w.heap.size → w'.heap[k]? = w.heap[k]?) : Grid w' B v n D := by
  obtain ⟨g, hv, hg, hi⟩ := h
  refine ⟨g, hv, by omega, fun i hn => ?_⟩
  obtain ⟨gi, h1, h2, h3⟩ := hi i hn
  exact ⟨gi, by rw [World.cell?_of_block (a := ⟨g, i, none⟩) (hb g hg.1 hg.2)]; exact h1, by omega, fun j hj => by rw [World.cell?_of_block (a := ⟨gi, j, none⟩) (hb gi h2.1 h2.2)]; exact h3 j hj⟩
theorem Grid.below {w w' : World} {B : Nat} {v : Value} {n : Nat} {D : Nat → Nat → Int} (h : Grid w B v n D) (hb : Below w.heap.size w w') : Grid w' B v n D := h.kept hb.size (fun k _ hk => hb.block k hk)
theorem Grid.grown {w w' : World} {B : Nat} {v : Value} {n : Nat} {D : Nat → Nat → Int} {row : Option Nat} (h : Grid w B v n D) (hg : w.grownBy w' row) (hr : ∀ k, row = some k → k < B) : Grid w' B v n D :=
  h.kept hg.size (fun k hB hk => hg.block k hk (fun e => by have := hr k e.symm; omega))
theorem Grid.setCell {w : World} {B p o : Nat} {v : Value} {n : Nat} {D : Nat → Nat → Int} (h : Grid w B v n D) (hp : p < B) (u : Value) : Grid (w.setCell ⟨p, o, none⟩ u) B v n D :=
  h.kept (by simp [World.setCell]) (fun k hB _ => Below.heap_setCell _ _ _ _ (by show k ≠ p; omega))
theorem Grid.base {w : World} {B B' : Nat} {v : Value} {n : Nat} {D : Nat → Nat → Int} (h : Grid w B v n D) (hB : B' ≤ B) : Grid w B' v n D := by
  obtain ⟨g, hv, hg, hi⟩ := h
  refine ⟨g, hv, by omega, fun i hn => ?_⟩
  obtain ⟨gi, h1, h2, h3⟩ := hi i hn
  exact ⟨gi, h1, by omega, h3⟩
/- the same, and whose it is: every row a block of its own, with no room left -/
def GridO (w : World) (B : Nat) (v : Value) (n : Nat) (D : Nat → Nat → Int) : Prop :=
  ∃ (g : Nat) (G : Nat → Nat), v = .slice (some ⟨g, 0, none⟩) n n ∧ w.ownsRow B 37 1 v n ((List.range n).map fun i => Value.slice (some ⟨G i, 0, none⟩) n n) ∧ (∀ i, i < n → B ≤ G i ∧ ∃ ci, w.heap[G i]? = some (.cells ci 3 (0, 0)) ∧ ci.size = n ∧ ∀ j, j < n → ci[j]? = some (.int .i64 (D i j))) ∧ ∀ i i', i < i' → i' < n → G i < G i'
theorem own_row {w : World} {B g n c : Nat} {e : TypeId} {xs : List Value} (h : w.ownsRow B e 1 (.slice (some ⟨g, 0, none⟩) n c) n xs) : B ≤ g ∧ ∃ cur, w.heap[g]? = some (.cells cur e (0, 0)) ∧ cur.size = c ∧ ∀ j, j < n → cur[j]? = xs[j]? := by
  rcases h.2 with ⟨hh, _⟩ | ⟨g', cap, cur, hv, hb, hg, _, _, hz, ht⟩
  · cases hh
  · cases hv
    refine ⟨hb, cur, hg, by simpa using hz, fun j hj => ?_⟩
    rw [← ht, List.getElem?_take_of_lt (by omega)]; simp
theorem GridO.grid {w : World} {B : Nat} {v : Value} {n : Nat} {D : Nat → Nat → Int} (h : GridO w B v n D) : Grid w B v n D := by
  obtain ⟨g, G, rfl, ho, hr, _⟩ := h
  obtain ⟨hb, cur, hg, _, hc⟩ := own_row ho
  refine ⟨g, rfl, ⟨hb, (Array.getElem?_eq_some_iff.1 hg).1⟩, fun i hi => ?_⟩
  obtain ⟨h1, ci, h2, _, h4⟩ := hr i hi
  refine ⟨G i, ?_, ⟨h1, (Array.getElem?_eq_some_iff.1 h2).1⟩, fun j hj => by rw [cell_of_row _ _ _ _ _ _ h2]; exact h4 j hj⟩
  rw [cell_of_row _ _ _ _ _ _ hg, hc i hi]; simp [hi]
theorem GridO.below {w w' : World} {B : Nat} {v : Value} {n : Nat} {D : Nat → Nat → Int} (h : GridO w B v n D) (hb : Below w.heap.size w w') : GridO w' B v n D := by
  obtain ⟨g, G, h1, h2, h3, h4⟩ := h
  refine ⟨g, G, h1, own_below h2 hb, fun i hi => ?_, h4⟩
  obtain ⟨k1, ci, k2, k3⟩ := h3 i hi
  exact ⟨k1, ci, by rw [hb.block _ (Array.getElem?_eq_some_iff.1 k2).1]; exact k2, k3⟩
theorem GridO.base {w : World} {B B' : Nat} {v : Value} {n : Nat} {D : Nat → Nat → Int} (h : GridO w B v n D) (hb : B' ≤ B) : GridO w B' v n D := by
  obtain ⟨g, G, h1, h2, h3, h4⟩ := h
  exact ⟨g, G, h1, own_base h2 hb, fun i hi => ⟨Nat.le_trans hb (h3 i hi).1, (h3 i hi).2⟩, h4⟩
theorem Try.infoInts : (Try.prog.info? 37).map (fun i => (i.zero, i.size, i.bytes)) = some (some (.slice none 0 0), 1, 24) := by kernel_rfl

/- the rows so far: the i-th is a block of its own -/
def rowsTo (G : Nat → Nat) (n k : Nat) : List Value := (List.range n).map fun i => if i < k then Value.slice (some ⟨G i, 0, none⟩) n n else .slice none 0 0
def rowTo (D : Nat → Int) (n k : Nat) : List Value := (List.range n).map fun j => if j < k then Value.int .i64 (D j) else .int .i64 0
theorem rowTo_zero (D : Nat → Int) (n : Nat) : rowTo D n 0 = List.replicate n (.int .i64 0) := by
  unfold rowTo; simp [List.map_const', List.length_range]
theorem rowsTo_zero (G : Nat → Nat) (n : Nat) : rowsTo G n 0 = List.replicate n (.slice none 0 0) := by
  unfold rowsTo; simp [List.map_const', List.length_range]
theorem rowTo_set {D : Nat → Int} {n k : Nat} (h : k < n) : (rowTo D n k).set k (.int .i64 (D k)) = rowTo D n (k + 1) := by
  apply List.ext_getElem?; intro i
  unfold rowTo
  by_cases hi : i < n
  · rw [List.getElem?_set]
    by_cases e : k = i
    · subst e; simp [h]
    · simp [e, hi]
      by_cases h1 : i < k
      · simp [h1, show i < k + 1 by omega]
      · simp [h1, show ¬ i < k + 1 by omega]
  · rw [List.getElem?_eq_none (by simp; omega), List.getElem?_eq_none (by simp; omega)]
theorem rowsTo_set {G : Nat → Nat} {n k g : Nat} (h : k < n) : (rowsTo G n k).set k (.slice (some ⟨g, 0, none⟩) n n) = rowsTo (fun i => if i = k then g else G i) n (k + 1) := by
  apply List.ext_getElem?; intro i
  unfold rowsTo
  by_cases hi : i < n
  · rw [List.getElem?_set]
    by_cases e : k = i
    · subst e; simp [h]
    · have e' : ¬ i = k := fun x => e x.symm
      simp [e, e', hi]
      by_cases h1 : i < k
      · simp [h1, show i < k + 1 by omega]
      · simp [h1, show ¬ i < k + 1 by omega]
  · rw [List.getElem?_eq_none (by simp; omega), List.getElem?_eq_none (by simp; omega)]
end Go.Proofs.Ytebinaopncclgaa
