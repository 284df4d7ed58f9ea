/- Walks: the table of ways. -/
import Derived.Test.YtebinaopncclgabNet
import Derived.Test.YtebinaopncclgabBent
import Derived.Test.YtebinaopncclgabTextI
namespace Go.Proofs.Ytebinaopncclgab
open Go.RowKit Go.IntWalk

def sites (r : Rd) : List Int := r.home :: r.stops.map (fun s => s.getD 0 0)
theorem sites_length (r : Rd) : (sites r).length = r.stops.length + 1 := by simp [sites]

set_option maxRecDepth 100000 in
set_option maxHeartbeats 2000000 in
theorem siteNodes_any (B B' : Nat) (r : Rd) (vs vr : Value) (w : World) (hn : RdNice r) (hs : w.ownsRow B 38 5 vs r.stops.length (ints r.stops.flatten)) (hr : w.ownsRow B' 40 3 vr r.roads.length (ints r.roads.flatten)) :
    Calls Try.prog 27 #[inst r vs vr] w fun e w' => ∃ v, e = .returned v ∧ w'.ownsRow w.heap.size 3 1 v (r.stops.length + 1) (ints (sites r)) ∧ Below w.heap.size w w' := by
  obtain ⟨i0, hi, hz0, hz1, hz2⟩ := info_parts Try.infoInt
  have hns := hn.nstops
  obtain ⟨aos, caps, rfl, has, hsn⟩ := own_val hs
  obtain ⟨aor, capr, rfl, har, hrn⟩ := own_val hr
  have HS := hide hs
  have HN := hide hn
  have HAS := hide has
  have HSN := hide hsn
  clear hs hr hn has hsn har hrn
  unfold inst
  go_enter Try.func27, Try.ntmps27
  go_wp2_with fail
  obtain ⟨bx, hbx⟩ : ∃ bx, bx = (w.alloc (.cells #[.int .i64 r.vans, .int .i64 r.load, .int .i64 r.close, .int .i64 r.nodes, .int .i64 r.home, .slice aos r.stops.length caps, .slice aor r.roads.length capr] 25)) := ⟨_, rfl⟩
  have HB5 : Hid (bx.cell? ⟨w.heap.size, 5, none⟩ = some (.slice aos r.stops.length caps)) := by show _ = _; rw [hbx]; simp [go_sem]
  have hbs : w.heap.size + 1 ≤ bx.heap.size := by rw [hbx]; simp
  have HBX := hide hbx
  clear hbx
  go_loopw [3, 4] (fun v i wr => ∃ k : Nat, i = .int .i64 k ∧ k ≤ r.stops.length ∧ Hid (wr.ownsRow (w.heap.size + 1) 3 1 v (k + 1) (ints ((sites r).take (k + 1)))) ∧ Hid (Below w.heap.size w wr) ∧ Hid (Below (w.heap.size + 1) bx wr)) (fun _ i _ => r.stops.length - (intOf i).toNat)
  case atStart =>
    refine ⟨0, rfl, by omega, ?_, below2 _ _ _, ?_⟩
    · have := World.ownsRow_lit (base := w.heap.size + 1) (e := 3) (size := 1) (w.alloc (.cells #[.int .i64 r.vans, .int .i64 r.load, .int .i64 r.close, .int .i64 r.nodes, .int .i64 r.home, .slice aos r.stops.length caps, .slice aor r.roads.length capr] 25)) #[.int .i64 r.home] 1 (by simp) (by unfold maxLen; omega) rfl
      show World.ownsRow _ _ _ _ _ _ _
      simpa [sites, ints] using this
    · show Below _ _ _
      rw [HBX.out]; exact (Below.refl _ _).alloc (by simp) _
  case round =>
    obtain ⟨k, rfl, hk, HO, HW, HBW⟩ := hrel
    have d5 : wr.cell? ⟨w.heap.size, 5, none⟩ = some (.slice aos r.stops.length caps) := (HBW.out.cell (by simp)).trans HB5.out
    have hsz : w.heap.size + 1 ≤ wr.heap.size := Nat.le_trans hbs HBW.out.size
    obtain ⟨g1, cap1, cur1, rfl, hg1, _, hcap1⟩ := own_shape HO.out (by omega)
    by_cases hlt : k < r.stops.length
    · obtain ⟨g, rfl, hgl⟩ := some_of HAS.out HSN.out (by omega)
      obtain ⟨a, b, c, d, e, hab⟩ := five (HN.out.stops _ (List.getElem_mem hlt)).1
      have hcl : ∀ j z, j < 5 → r.stops[k][j]? = some z → wr.cell? ⟨g, k * 5 + j, none⟩ = some (.int .i64 z) := by
        intro j z hj hz
        rw [HW.out.cell (by exact hgl), HS.out.cellAt (k * 5 + j) (by omega)]
        exact flat_ints (fun s hs => (HN.out.stops s hs).1) hlt hj hz
      rw [hab] at hcl
      have x0 : wr.cell? ⟨g, k * 5, none⟩ = some (.int .i64 a) := hcl 0 a (by omega) rfl
      have HT : Hid ((sites r).take (k + 1 + 1) = (sites r).take (k + 1) ++ [a]) := by
        show _ = _
        rw [List.take_succ_eq_append_getElem (by rw [sites_length]; omega)]
        simp [sites, hab]
      clear hcl hab
      have hgw : g < wr.heap.size := by omega
      go_wp2_with (first
        | (at_builtin; refine wpList_append_own _ rfl _ _ 31 rfl (w.heap.size + 1) 3 i0 (.int .i64 0) 1 8 Try.underlying31 hi hz0 hz1 hz2 rfl (by decide) _ _ _ rfl (HO.out.alloc _) ⟨wr.heap.size, 0, none⟩ 1 1 [.int .i64 a] rfl rfl ?c1 ?c2 ?c3 ?c4 ?c5 ?_)
        | go_in)
      case c1 => exact cell_one_new _ _ _
      case c2 => intro u hu; simp at hu; subst hu; rfl
      case c3 => unfold maxLen; omega
      case c4 => omega
      case c5 => simp; omega
      intro v' w2 hown' hgrow _
      have HO' := hide hown'
      have HG := hide hgrow
      clear hown' hgrow d5 x0
      go_wp2
      go_roundw
      case rel =>
        refine ⟨k + 1, by go_num, by omega, ?_, ?_, ?_⟩
        · show World.ownsRow _ _ _ _ _ _ _
          rw [HT.out, ints_append]; exact HO'.out
        · exact (HW.out.alloc (by omega) _).grown HG.out (by simp; omega) (fun q hq => by have := (HO.out.lt q hq).1; omega)
        · refine (HBW.out.alloc (by omega) _).grown HG.out (by simp; omega) (fun q hq => ?_)
          exact (HO.out.lt q hq).1
      case measure => simp [intOf]; omega
    · go_wp2
      go_ret
      have hke : k = r.stops.length := by omega
      subst hke
      refine ⟨_, rfl, ?_, HW.out⟩
      have h := HO.out
      rw [List.take_of_length_le (by rw [sites_length]; omega)] at h
      exact own_base h (by omega)

/- a table of numbers in memory, from block B on: n rows of n -/
def Grid (w : World) (B : Nat) (v : Value) (n : Nat) (D : Nat → Nat → Int) : Prop :=
  ∃ g, v = .slice (some ⟨g, 0, none⟩) n n ∧ (B ≤ g ∧ g < w.heap.size) ∧ ∀ i, i < n → ∃ gi, w.cell? ⟨g, i, none⟩ = some (.slice (some ⟨gi, 0, none⟩) n n) ∧ (B ≤ gi ∧ gi < w.heap.size) ∧ ∀ j, j < n → w.cell? ⟨gi, j, none⟩ = some (.int .i64 (D i j))
theorem Grid.kept {w w' : World} {B : Nat} {v : Value} {n : Nat} {D : Nat → Nat → Int} (h : Grid w B v n D) (hs : w.heap.size ≤ w'.heap.size) (hb : ∀ k, B ≤ k → k < w.heap.size → w'.heap[k]? = w.heap[k]?) : Grid w' B v n D := by
  obtain ⟨g, hv, hg, hi⟩ := h
  refine ⟨g, hv, by omega, fun i hn => ?_⟩
  obtain ⟨gi, h1, h2, h3⟩ := hi i hn
  exact ⟨gi, by rw [World.cell?_of_block (a := ⟨g, i, none⟩) (hb g hg.1 hg.2)]; exact h1, by omega, fun j hj => by rw [World.cell?_of_block (a := ⟨gi, j, none⟩) (hb gi h2.1 h2.2)]; exact h3 j hj⟩
theorem Grid.below {w w' : World} {B : Nat} {v : Value} {n : Nat} {D : Nat → Nat → Int} (h : Grid w B v n D) (hb : Below w.heap.size w w') : Grid w' B v n D := h.kept hb.size (fun k _ hk => hb.block k hk)
theorem Grid.grown {w w' : World} {B : Nat} {v : Value} {n : Nat} {D : Nat → Nat → Int} {row : Option Nat} (h : Grid w B v n D) (hg : w.grownBy w' row) (hr : ∀ k, row = some k → k < B) : Grid w' B v n D :=
  h.kept hg.size (fun k hB hk => hg.block k hk (fun e => by have := hr k e.symm; omega))
theorem Grid.setCell {w : World} {B p o : Nat} {v : Value} {n : Nat} {D : Nat → Nat → Int} (h : Grid w B v n D) (hp : p < B) (u : Value) : Grid (w.setCell ⟨p, o, none⟩ u) B v n D :=
  h.kept (by simp [World.setCell]) (fun k hB _ => Below.heap_setCell _ _ _ _ (by show k ≠ p; omega))
theorem Grid.base {w : World} {B B' : Nat} {v : Value} {n : Nat} {D : Nat → Nat → Int} (h : Grid w B v n D) (hB : B' ≤ B) : Grid w B' v n D := by
  obtain ⟨g, hv, hg, hi⟩ := h
  refine ⟨g, hv, by omega, fun i hn => ?_⟩
  obtain ⟨gi, h1, h2, h3⟩ := hi i hn
  exact ⟨gi, h1, by omega, h3⟩
/- the same, and whose it is: every row a block of its own, with no room left -/
def GridO (w : World) (B : Nat) (v : Value) (n : Nat) (D : Nat → Nat → Int) : Prop :=
  ∃ (g : Nat) (G : Nat → Nat), v = .slice (some ⟨g, 0, none⟩) n n ∧ w.ownsRow B 31 1 v n ((List.range n).map fun i => Value.slice (some ⟨G i, 0, none⟩) n n) ∧ (∀ i, i < n → B ≤ G i ∧ ∃ ci, w.heap[G i]? = some (.cells ci 3 (0, 0)) ∧ ci.size = n ∧ ∀ j, j < n → ci[j]? = some (.int .i64 (D i j))) ∧ ∀ i i', i < i' → i' < n → G i < G i'
theorem own_row {w : World} {B g n c : Nat} {e : TypeId} {xs : List Value} (h : w.ownsRow B e 1 (.slice (some ⟨g, 0, none⟩) n c) n xs) : B ≤ g ∧ ∃ cur, w.heap[g]? = some (.cells cur e (0, 0)) ∧ cur.size = c ∧ ∀ j, j < n → cur[j]? = xs[j]? := by
  rcases h.2 with ⟨hh, _⟩ | ⟨g', cap, cur, hv, hb, hg, _, _, hz, ht⟩
  · cases hh
  · cases hv
    refine ⟨hb, cur, hg, by simpa using hz, fun j hj => ?_⟩
    rw [← ht, List.getElem?_take_of_lt (by omega)]; simp
theorem GridO.grid {w : World} {B : Nat} {v : Value} {n : Nat} {D : Nat → Nat → Int} (h : GridO w B v n D) : Grid w B v n D := by
  obtain ⟨g, G, rfl, ho, hr, _⟩ := h
  obtain ⟨hb, cur, hg, _, hc⟩ := own_row ho
  refine ⟨g, rfl, ⟨hb, (Array.getElem?_eq_some_iff.1 hg).1⟩, fun i hi => ?_⟩
  obtain ⟨h1, ci, h2, _, h4⟩ := hr i hi
  refine ⟨G i, ?_, ⟨h1, (Array.getElem?_eq_some_iff.1 h2).1⟩, fun j hj => by rw [cell_of_row _ _ _ _ _ _ h2]; exact h4 j hj⟩
  rw [cell_of_row _ _ _ _ _ _ hg, hc i hi]; simp [hi]
theorem GridO.below {w w' : World} {B : Nat} {v : Value} {n : Nat} {D : Nat → Nat → Int} (h : GridO w B v n D) (hb : Below w.heap.size w w') : GridO w' B v n D := by
  obtain ⟨g, G, h1, h2, h3, h4⟩ := h
  refine ⟨g, G, h1, own_below h2 hb, fun i hi => ?_, h4⟩
  obtain ⟨k1, ci, k2, k3⟩ := h3 i hi
  exact ⟨k1, ci, by rw [hb.block _ (Array.getElem?_eq_some_iff.1 k2).1]; exact k2, k3⟩
theorem GridO.base {w : World} {B B' : Nat} {v : Value} {n : Nat} {D : Nat → Nat → Int} (h : GridO w B v n D) (hb : B' ≤ B) : GridO w B' v n D := by
  obtain ⟨g, G, h1, h2, h3, h4⟩ := h
  exact ⟨g, G, h1, own_base h2 hb, fun i hi => ⟨Nat.le_trans hb (h3 i hi).1, (h3 i hi).2⟩, h4⟩
theorem Try.infoInts : (Try.prog.info? 31).map (fun i => (i.zero, i.size, i.bytes)) = some (some (.slice none 0 0), 1, 24) := by kernel_rfl

/- the rows so far: the i-th is a block of its own -/
def rowsTo (G : Nat → Nat) (n k : Nat) : List Value := (List.range n).map fun i => if i < k then Value.slice (some ⟨G i, 0, none⟩) n n else .slice none 0 0
def rowTo (D : Nat → Int) (n k : Nat) : List Value := (List.range n).map fun j => if j < k then Value.int .i64 (D j) else .int .i64 0
theorem rowTo_zero (D : Nat → Int) (n : Nat) : rowTo D n 0 = List.replicate n (.int .i64 0) := by
  unfold rowTo; simp [List.map_const', List.length_range]
theorem rowsTo_zero (G : Nat → Nat) (n : Nat) : rowsTo G n 0 = List.replicate n (.slice none 0 0) := by
  unfold rowsTo; simp [List.map_const', List.length_range]
theorem rowTo_set {D : Nat → Int} {n k : Nat} (h : k < n) : (rowTo D n k).set k (.int .i64 (D k)) = rowTo D n (k + 1) := by
  apply List.ext_getElem?; intro i
  unfold rowTo
  by_cases hi : i < n
  · rw [List.getElem?_set]
    by_cases e : k = i
    · subst e; simp [h]
    · simp [e, hi]
      by_cases h1 : i < k
      · simp [h1, show i < k + 1 by omega]
      · simp [h1, show ¬ i < k + 1 by omega]
  · rw [List.getElem?_eq_none (by simp; omega), List.getElem?_eq_none (by simp; omega)]
theorem rowsTo_set {G : Nat → Nat} {n k g : Nat} (h : k < n) : (rowsTo G n k).set k (.slice (some ⟨g, 0, none⟩) n n) = rowsTo (fun i => if i = k then g else G i) n (k + 1) := by
  apply List.ext_getElem?; intro i
  unfold rowsTo
  by_cases hi : i < n
  · rw [List.getElem?_set]
    by_cases e : k = i
    · subst e; simp [h]
    · have e' : ¬ i = k := fun x => e x.symm
      simp [e, e', hi]
      by_cases h1 : i < k
      · simp [h1, show i < k + 1 by omega]
      · simp [h1, show ¬ i < k + 1 by omega]
  · rw [List.getElem?_eq_none (by simp; omega), List.getElem?_eq_none (by simp; omega)]
end Go.Proofs.Ytebinaopncclgab
namespace Go.Proofs.Ytebinaopncclgab
open Go.RowKit Go.IntWalk

theorem own_cells_int {w : World} {B g n c : Nat} {e : TypeId} {xs : List Value} (h : w.ownsRow B e 1 (.slice (some ⟨g, 0, none⟩) n c) n xs) : g < w.heap.size := by
  rcases h.2 with ⟨h0, _⟩ | ⟨g', cap, cur, hv, _, hg, _⟩
  · cases h0
  · cases hv; exact (Array.getElem?_eq_some_iff.1 hg).1
theorem rowTo_at {D : Nat → Int} {n k : Nat} (h : k < n) : (rowTo D n k)[k]? = some (.int .i64 0) := by simp [rowTo, h]
theorem rowsTo_at {G : Nat → Nat} {n k : Nat} (h : k < n) : (rowsTo G n k)[k]? = some (.slice none 0 0) := by simp [rowsTo, h]

theorem cell_aside (w : World) {b o p q : Nat} (u : Value) (h : ¬ b = p) : (w.setCell ⟨p, q, none⟩ u).cell? ⟨b, o, none⟩ = w.cell? ⟨b, o, none⟩ :=
  World.cell?_of_block (a := ⟨b, o, none⟩) (Below.heap_setCell _ _ _ _ (by exact h))

set_option maxRecDepth 100000 in
set_option maxHeartbeats 2000000 in
theorem table_own (nb N n g0 c0 Bs : Nat) (F : Nat → Nat → Int) (S : Nat → Nat) (w : World) (h : NetAt w nb N F) (hn1 : 1 ≤ n) (hn : n ≤ 8) (hS : ∀ i, i < n → S i < N)
    (hs : w.ownsRow Bs 3 1 (.slice (some ⟨g0, 0, none⟩) n c0) n (ints ((List.range n).map fun i => (S i : Int)))) :
    Calls Try.prog 28 #[.pointer (some ⟨nb, 0, none⟩), .slice (some ⟨g0, 0, none⟩) n c0] w fun e w' => ∃ v, e = .returned v ∧ GridO w' w.heap.size v n (fun i j => F (S i) (S j)) ∧ Below w.heap.size w w' := by
  obtain ⟨i0, hi, hz0, hz1, hz2⟩ := info_parts Try.infoInt
  obtain ⟨j0, hj, hy0, hy1, hy2⟩ := info_parts Try.infoInts
  have hN := h.2.2.1
  have HN := hide' h
  have HSS := hide' hS
  have hg0 := own_cells_int hs
  have hnb := net_lt h
  have HSC : Hid (∀ i, i < n → w.cell? ⟨g0, i, none⟩ = some (.int .i64 (S i))) := fun i hi => by
    rw [hs.cellAt i (by omega)]; simp [ints, hi]
  clear h hS hs
  go_enter Try.func28, Try.ntmps28
  go_wp2_with (first
    | (at_make; refine wpList_make_full _ rfl _ _ 28 rfl w.heap.size 31 j0 (.slice none 0 0) 1 Try.underlying28 hj hy0 hy1 .i64 .i64 _ _ n rfl rfl ?m1 ?m2 ?m3 ?m4 ?m5 ?_)
    | fail)
  case m1 => rfl
  case m2 => rfl
  case m3 => rw [hy2]; omega
  case m4 => unfold maxLen; omega
  case m5 => exact Nat.le_refl _
  intro w1 hown1 hgrow1
  have HB1 : Hid (Below w.heap.size w w1) := (Below.refl _ _).grown hgrow1 (Nat.le_refl _) (by simp)
  have HO1 : Hid (w1.ownsRow w.heap.size 31 1 (.slice (some ⟨w.heap.size, 0, none⟩) n n) n (rowsTo (fun _ => 0) n 0)) := by
    show World.ownsRow _ _ _ _ _ _ _
    have e : (madeCells #[Value.slice none 0 0] n).toList = rowsTo (fun _ => 0) n 0 := by rw [toList_madeCells_one, rowsTo_zero]
    rw [← e]; simpa using hown1
  clear hown1 hgrow1
  go_wp2
  go_loopw [6, 7, 8] (fun i _ _ wr => ∃ (k : Nat) (G : Nat → Nat), i = .int .i64 k ∧ k ≤ n ∧ Hid (wr.ownsRow w.heap.size 31 1 (.slice (some ⟨w.heap.size, 0, none⟩) n n) n (rowsTo G n k)) ∧
      Hid (∀ i, i < k → w.heap.size < G i ∧ (∃ ci, wr.heap[G i]? = some (.cells ci 3 (0, 0)) ∧ ci.size = n ∧ ∀ j, j < n → ci[j]? = some (.int .i64 (F (S i) (S j)))) ∧ ∀ i', i' < i → G i' < G i) ∧ Hid (Below w.heap.size w wr)) (fun i _ _ _ => n - (intOf i).toNat)
  case atStart => exact ⟨0, fun _ => 0, rfl, by omega, HO1, fun i hi => by omega, HB1⟩
  case round =>
    clear HO1 HB1
    obtain ⟨k, G, rfl, hk, HO, HG, HB⟩ := hrel
    obtain ⟨wo, rfl⟩ : ∃ wo, wo = wr := ⟨_, rfl⟩
    have hbz := HB.out.size
    have hrz := own_cells_int HO.out
    by_cases hlt : k < n
    · go_wp2_with (first
        | (at_make; refine wpList_make_full _ rfl _ _ 31 rfl wo.heap.size 3 i0 (.int .i64 0) 1 Try.underlying31 hi hz0 hz1 .i64 .i64 _ _ n rfl rfl ?q1 ?q2 ?q3 ?q4 ?q5 ?_)
        | fail)
      case q1 => rfl
      case q2 => rfl
      case q3 => rw [hz2]; omega
      case q4 => unfold maxLen; omega
      case q5 => exact Nat.le_refl _
      intro w2 hown2 hgrow2
      have HB2 : Hid (Below wo.heap.size wo w2) := (Below.refl _ _).grown hgrow2 (Nat.le_refl _) (by simp)
      have HO2 : Hid (w2.ownsRow wo.heap.size 3 1 (.slice (some ⟨wo.heap.size, 0, none⟩) n n) n (rowTo (fun j => F (S k) (S j)) n 0)) := by
        show World.ownsRow _ _ _ _ _ _ _
        have e : (madeCells #[Value.int .i64 0] n).toList = rowTo (fun j => F (S k) (S j)) n 0 := by rw [toList_madeCells_one, rowTo_zero]
        rw [← e]; simpa using hown2
      clear hown2 hgrow2
      go_wp2
      go_loopw [8] (fun j wr => ∃ q : Nat, j = .int .i64 q ∧ q ≤ n ∧ Hid (wr.ownsRow wo.heap.size 3 1 (.slice (some ⟨wo.heap.size, 0, none⟩) n n) n (rowTo (fun j => F (S k) (S j)) n q)) ∧ Hid (Below wo.heap.size wo wr)) (fun j _ => n - (intOf j).toNat)
      case atStart => exact ⟨0, rfl, by omega, HO2, HB2⟩
      case round =>
        clear HO2 HB2
        obtain ⟨q, rfl, hq, HQ, HB2⟩ := hrel
        have hb2 := HB2.out.size
        by_cases hlq : q < n
        · have sk := HSS.out k hlt
          have sq := HSS.out q hlq
          have s1 : wr.cell? ⟨g0, k, none⟩ = some (.int .i64 (S k)) := ((HB2.out.cell (p := ⟨g0, k, none⟩) (by show g0 < _; omega)).trans (HB.out.cell (p := ⟨g0, k, none⟩) hg0)).trans (HSC.out k hlt)
          have s2 : wr.cell? ⟨g0, q, none⟩ = some (.int .i64 (S q)) := ((HB2.out.cell (p := ⟨g0, q, none⟩) (by show g0 < _; omega)).trans (HB.out.cell (p := ⟨g0, q, none⟩) hg0)).trans (HSC.out q hlq)
          have s3 : wr.cell? ⟨nb, 1 + S k * 12 + S q, none⟩ = some (.int .i64 (F (S k) (S q))) := ((HB2.out.cell (p := ⟨nb, 1 + S k * 12 + S q, none⟩) (by show nb < _; omega)).trans (HB.out.cell (p := ⟨nb, 1 + S k * 12 + S q, none⟩) hnb)).trans (HN.out.2.2.2 _ _ sk sq)
          have s4 : wr.cell? ⟨wo.heap.size, q, none⟩ = some (.int .i64 0) := by rw [HQ.out.cellAt q (by omega)]; exact rowTo_at hlq
          have s5 := HQ.out.frozenAt q
          have HST := hide' (HQ.out.stored q (.int .i64 (F (S k) (S q)))).1
          have ik : (0 : Int) ≤ (k : Int) := by omega
          have iq : (0 : Int) ≤ (q : Int) := by omega
          have jk : (k : Int) < (n : Int) := by omega
          have jq : (q : Int) < (n : Int) := by omega
          have k1 : (S k : Int) < 12 := by omega
          have k2 : (S q : Int) < 12 := by omega
          have hne1 : ¬ nb = wo.heap.size := by omega
          have hne2 : ¬ g0 = wo.heap.size := by omega
          generalize hf : F (S k) (S q) = f at *
          have HF := hide' hf
          clear hf
          generalize hsk : S k = sK at *
          generalize hsq : S q = sQ at *
          have HK := hide' hsk
          have HQ' := hide' hsq
          clear hsk hsq
          have t1 := (cell_aside wr (b := g0) (o := k) (p := wo.heap.size) (q := q) (.int .i64 f) hne2).trans s1
          have t2 := (cell_aside wr (b := g0) (o := q) (p := wo.heap.size) (q := q) (.int .i64 f) hne2).trans s2
          have t3 := (cell_aside wr (b := nb) (o := 1 + sK * 12 + sQ) (p := wo.heap.size) (q := q) (.int .i64 f) hne1).trans s3
          go_wp2_with fail
          go_region_held3 (fun w' => w'.cell? ⟨g0, k, none⟩ = some (.int .i64 sK) ∧ w'.cell? ⟨g0, q, none⟩ = some (.int .i64 sQ) ∧ w'.cell? ⟨nb, 1 + sK * 12 + sQ, none⟩ = some (.int .i64 f)) (go_keep) (fail)
          clear t1 t2 t3 s1 s2 s3 s4 s5
          go_wp2
          go_roundw
          case rel =>
            refine ⟨q + 1, by go_num, by omega, ?_, ?_⟩
            · show World.ownsRow _ _ _ _ _ _ _
              rw [← rowTo_set hlq]
              have e : F sK (S q) = f := by rw [HQ'.out]; exact HF.out
              rw [e]
              exact own_heap HST.out rfl
            · exact (HB2.out.setCell (by exact Nat.le_refl _) _).drew
          case measure => simp [intOf]; omega
        · have hqe : q = n := by omega
          subst hqe
          have r1 : wr.cell? ⟨w.heap.size, k, none⟩ = some (.slice none 0 0) := by
            rw [HB2.out.cell (p := ⟨w.heap.size, k, none⟩) (by exact hrz), HO.out.cellAt k (by omega)]; exact rowsTo_at hlt
          have HOw : Hid (wr.ownsRow w.heap.size 31 1 (.slice (some ⟨w.heap.size, 0, none⟩) q q) q (rowsTo G q k)) := own_below HO.out HB2.out
          have r2 := HOw.out.frozenAt k
          have HST := hide' (HOw.out.stored k (.slice (some ⟨wo.heap.size, 0, none⟩) q q)).1
          have hgz := own_cells_int HQ.out
          go_wp2
          go_roundw
          case rel =>
            refine ⟨k + 1, fun i => if i = k then wo.heap.size else G i, by go_num, by omega, ?_, ?_, ?_⟩
            · show World.ownsRow _ _ _ _ _ _ _
              rw [← rowsTo_set hlt]; exact HST.out
            · intro i hi
              by_cases e : i = k
              · subst e
                obtain ⟨_, cur, hc1, hc2, hc3⟩ := own_row HQ.out
                refine ⟨by simp; omega, ⟨cur, ?_, hc2, fun j hj => by rw [hc3 j hj]; simp [rowTo, hj]⟩, fun i' hi' => ?_⟩
                · dsimp only; rw [if_pos rfl, Below.heap_setCell _ _ _ _ (by show wo.heap.size ≠ w.heap.size; omega)]; exact hc1
                · dsimp only; rw [if_pos rfl, if_neg (by omega)]
                  obtain ⟨_, ⟨ci, h2, _⟩, _⟩ := HG.out i' hi'
                  exact (Array.getElem?_eq_some_iff.1 h2).1
              · obtain ⟨g1, ⟨ci, g2, g3, g4⟩, g5⟩ := HG.out i (by omega)
                refine ⟨by dsimp only; rw [if_neg e]; exact g1, ⟨ci, ?_, g3, g4⟩, fun i' hi' => by dsimp only; rw [if_neg e, if_neg (by omega)]; exact g5 i' hi'⟩
                dsimp only; rw [if_neg e, Below.heap_setCell _ _ _ _ (by show G i ≠ w.heap.size; omega), HB2.out.block _ (Array.getElem?_eq_some_iff.1 g2).1]; exact g2
            · exact (HB.out.trans (HB2.out.mono hbz)).setCell (by exact Nat.le_refl _) _
          case measure => simp [intOf]; omega
    · have hke : k = n := by omega
      subst hke
      go_wp2
      go_ret
      refine ⟨_, rfl, ⟨w.heap.size, G, rfl, ?_, fun i hi => ?_, fun i i' h1 h2 => (HG.out i' h2).2.2 i h1⟩, HB.out⟩
      · have h := HO.out
        have e : rowsTo G k k = (List.range k).map fun i => Value.slice (some ⟨G i, 0, none⟩) k k := by
          unfold rowsTo; apply List.map_congr_left; intro i hi; rw [if_pos (by simpa using hi)]
        rw [e] at h; exact h
      · obtain ⟨g1, g2, _⟩ := HG.out i hi
        exact ⟨by omega, g2⟩
theorem table_any (nb N n g0 c0 Bs : Nat) (F : Nat → Nat → Int) (S : Nat → Nat) (w : World) (h : NetAt w nb N F) (hn1 : 1 ≤ n) (hn : n ≤ 8) (hS : ∀ i, i < n → S i < N)
    (hs : w.ownsRow Bs 3 1 (.slice (some ⟨g0, 0, none⟩) n c0) n (ints ((List.range n).map fun i => (S i : Int)))) :
    Calls Try.prog 28 #[.pointer (some ⟨nb, 0, none⟩), .slice (some ⟨g0, 0, none⟩) n c0] w fun e w' => ∃ v, e = .returned v ∧ Grid w' w.heap.size v n (fun i j => F (S i) (S j)) ∧ Below w.heap.size w w' :=
  (table_own nb N n g0 c0 Bs F S w h hn1 hn hS hs).mono fun _ _ ⟨v, h1, h2, h3⟩ => ⟨v, h1, h2.grid, h3⟩
end Go.Proofs.Ytebinaopncclgab
