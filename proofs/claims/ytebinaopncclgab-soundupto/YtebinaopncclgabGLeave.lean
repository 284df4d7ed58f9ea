/- Walks: from a leaf to the other side of a branch. -/
import Derived.Test.YtebinaopncclgabGPlace
namespace Go.Proofs.Ytebinaopncclgab
open Go.RowKit Go.IntWalk

theorem leave_said {n a b : Nat} {s : Bool} {P : PathT} (h : PathOk n (((a, b), s) :: P)) : saidZ n (tabP (((a, b), s) :: P)) (a : Int) (b : Int) = if s = true then 1 else 2 := by
  have h1 := tab_mem h (List.mem_cons_self ..)
  unfold saidZ
  rw [if_pos ⟨⟨by omega, by omega⟩, ⟨by omega, by omega⟩, by omega⟩]
  exact h1.1
theorem leave_over (a b : Nat) (s : Bool) (P : PathT) : upd (tabP (((a, b), s) :: P)) a b 2 = tabP (((a, b), false) :: P) := by
  funext x y
  show (if x = a ∧ y = b then 2 else upd (tabP P) a b (if s = true then 1 else 2) x y) = upd (tabP P) a b (if false = true then 1 else 2) x y
  unfold upd
  by_cases e : x = a ∧ y = b
  · simp [e]
  · simp [e]
theorem leave_free {a b : Nat} {s : Bool} {P : PathT} (h : tabP P a b = 0) : upd (tabP (((a, b), s) :: P)) a b 0 = tabP P := by
  funext x y
  show (if x = a ∧ y = b then 0 else upd (tabP P) a b (if s = true then 1 else 2) x y) = tabP P x y
  unfold upd
  by_cases e : x = a ∧ y = b
  · rw [if_pos e, e.1, e.2, h]
  · simp [e]
theorem sayZ_arc {n a b : Nat} {T : Nat → Nat → Int} {v : Int} (h1 : a ≤ n) (h2 : b ≤ n) (h3 : a ≠ b) : sayZ n T (a : Int) (b : Int) v = upd T a b v := by
  unfold sayZ
  rw [if_pos ⟨⟨by omega, by omega⟩, ⟨by omega, by omega⟩, by omega⟩]; simp
def lenAt (w : World) (p : Nat) : Nat := match w.cell? ⟨p, 74, none⟩ with | some (.slice _ n _) => n | _ => 0
/- all but the walk's box is as it was -/
def KeptB (w w' : World) (p : Nat) : Prop := w.heap.size ≤ w'.heap.size ∧ ∀ k, k < w.heap.size → k ≠ p → w'.heap[k]? = w.heap[k]?
theorem KeptB.trans {a b c : World} {p : Nat} (h : KeptB a b p) (k : KeptB b c p) : KeptB a c p := ⟨Nat.le_trans h.1 k.1, fun i h1 h2 => (k.2 i (Nat.lt_of_lt_of_le h1 h.1) h2).trans (h.2 i h1 h2)⟩
theorem KeptB.of_below {a b : World} {p : Nat} (h : Below a.heap.size a b) : KeptB a b p := ⟨h.size, fun i h1 _ => h.block i h1⟩

theorem own_cut2 {w : World} {B g n cap size n' : Nat} {e : TypeId} {xs : List Value} (h : w.ownsRow B e size (.slice (some ⟨g, 0, none⟩) n cap) n xs) (hn : n' ≤ n) : w.ownsRow B e size (.slice (some ⟨g, 0, none⟩) n' cap) n' (xs.take (n' * size)) := by
  have hm : n' * size ≤ n * size := Nat.mul_le_mul_right _ hn
  rcases h.2 with ⟨h0, _⟩ | ⟨g', cap', cur, hv, hb, hg, h1, h2, h3, h4⟩
  · cases h0
  · cases hv
    refine ⟨by rw [List.length_take, h.1]; omega, .inr ⟨g, cap, cur, rfl, hb, hg, by omega, h2, h3, ?_⟩⟩
    rw [← h4, List.take_take, Nat.min_eq_left hm]
theorem own_cap {w : World} {B g n cap size : Nat} {e : TypeId} {xs : List Value} (h : w.ownsRow B e size (.slice (some ⟨g, 0, none⟩) n cap) n xs) : n ≤ cap := by
  rcases h.2 with ⟨h0, _⟩ | ⟨g', cap', cur, hv, _, _, h1, _⟩
  · cases h0
  · cases hv; exact h1
theorem walk_say {w0 w w3 w4 : World} {p : Nat} {r : Rd} {cl : Option Int} {P Q : PathT} {vs vf vf2 : Value} {T : Nat → Nat → Int} (hw : WalkAt w0 w p r cl P vs vf vf2) (h3 : Below w.heap.size w w3) (f1 : ArcsAt w4 p 8 r T vf2)
    (f2 : ∀ k u, k < 8 ∨ 74 ≤ k → w.cell? ⟨p, k, none⟩ = some u → w4.cell? ⟨p, k, none⟩ = some u) (f3 : ∀ k, k < w3.heap.size → k ≠ p → w4.heap[k]? = w3.heap[k]?) (f4 : Below p w w4) (f5 : w3.heap.size ≤ w4.heap.size) (hT : T = tabP Q) (ha : aboveC Q = aboveC P) (hl : Q.length = P.length) :
    WalkAt w0 w4 p r cl Q vs vf vf2 ∧ KeptB w w4 p := by
  obtain ⟨va, g74, hoa⟩ := hw.above
  have hoa3 := own_below hoa h3
  refine ⟨⟨hw.size, hw.below.trans f4, f2 0 _ (by omega) hw.c0, f2 1 _ (by omega) hw.c1, f2 2 _ (by omega) hw.c2, f2 5 _ (by omega) hw.c5, f2 7 _ (by omega) hw.c7, hT ▸ f1, ⟨va, f2 74 _ (by omega) g74, ?_⟩, f2 75 _ (by omega) hw.c75, f2 76 _ (by omega) hw.c76⟩, Nat.le_trans h3.size f5, fun k h1 h2 => (f3 k (Nat.lt_of_lt_of_le h1 h3.size) h2).trans (h3.block k h1)⟩
  rw [ha, hl]
  exact own_other hoa3 (fun q hq => by have h9 := hoa3.lt q hq; exact f3 q h9.2 (by omega))
theorem walk_cut2 {w0 w : World} {p g m cv a b : Nat} {s : Bool} {r : Rd} {cl : Option Int} {Q : PathT} {vs vf vf2 : Value} (hsz : w0.heap.size = p) (hbl : Below p w0 w) (c0 : w.cell? ⟨p, 0, none⟩ = some (.int .i64 r.vans)) (c1 : w.cell? ⟨p, 1, none⟩ = some (.int .i64 r.load)) (c2 : w.cell? ⟨p, 2, none⟩ = some (.int .i64 r.close)) (c5 : w.cell? ⟨p, 5, none⟩ = some vs) (c7 : w.cell? ⟨p, 7, none⟩ = some vf) (c75 : w.cell? ⟨p, 75, none⟩ = some (.bool cl.isSome)) (c76 : w.cell? ⟨p, 76, none⟩ = some (.int .i64 (cl.getD 0)))
    (ha : ArcsAt w p 8 r (tabP Q) vf2) (hm : m = Q.length) (h74 : w.cell? ⟨p, 74, none⟩ = some (.slice (some ⟨g, 0, none⟩) (m + 1) cv)) (hoa : w.ownsRow (p + 1) 121 2 (.slice (some ⟨g, 0, none⟩) (m + 1) cv) (List.length (((a, b), s) :: Q)) (aboveC (((a, b), s) :: Q))) :
    WalkAt w0 (w.setCell ⟨p, 74, none⟩ (.slice (some ⟨g, 0, none⟩) m cv)) p r cl Q vs vf vf2 ∧ KeptB w (w.setCell ⟨p, 74, none⟩ (.slice (some ⟨g, 0, none⟩) m cv)) p ∧ lenAt (w.setCell ⟨p, 74, none⟩ (.slice (some ⟨g, 0, none⟩) m cv)) p < lenAt w p := by
  obtain ⟨cs, ty, hbox⟩ := ha.box
  have hk : ∀ k, k ≠ 74 → (w.setCell ⟨p, 74, none⟩ (.slice (some ⟨g, 0, none⟩) m cv)).cell? ⟨p, k, none⟩ = w.cell? ⟨p, k, none⟩ := fun k hk => World.cell?_setCell_other _ _ _ _ (by intro h; simp only [Addr.mk.injEq] at h; omega)
  have h74' : 74 < cs.size := by
    rw [cell_of_row w p 74 _ _ _ hbox] at h74
    exact (Array.getElem?_eq_some_iff.1 h74).1
  have hsame := heap_setCell_same w p 74 _ _ (.slice (some ⟨g, 0, none⟩) m cv) hbox
  have hc74 : (w.setCell ⟨p, 74, none⟩ (.slice (some ⟨g, 0, none⟩) m cv)).cell? ⟨p, 74, none⟩ = some (.slice (some ⟨g, 0, none⟩) m cv) := by rw [cell_of_row _ p 74 _ _ _ hsame]; simp [h74']
  have hoa' : w.ownsRow (p + 1) 121 2 (.slice (some ⟨g, 0, none⟩) (m + 1) cv) (m + 1) (aboveC (((a, b), s) :: Q)) := by
    have e : List.length (((a, b), s) :: Q) = m + 1 := by rw [hm]; rfl
    rw [e] at hoa; exact hoa
  have hcut := own_cut2 (n' := m) hoa' (by omega)
  have htk : (aboveC (((a, b), s) :: Q)).take (m * 2) = aboveC Q := by
    rw [above_snoc]
    have hal : (aboveC Q).length = m * 2 := by
      rw [hm]; unfold aboveC
      have : ∀ L : PathT, ((L.map fun q => [Value.int .i64 q.1.1, Value.int .i64 q.1.2]).flatten).length = L.length * 2 := by
        intro L
        induction L with
        | nil => rfl
        | cons q L ih => simp only [List.map_cons, List.flatten_cons, List.length_append, ih]; simp; omega
      rw [this]; simp
    rw [← hal, List.take_left]
  rw [htk] at hcut
  refine ⟨⟨hsz, hbl.setCell (Nat.le_refl _) _, (hk 0 (by omega)).trans c0, (hk 1 (by omega)).trans c1, (hk 2 (by omega)).trans c2, (hk 5 (by omega)).trans c5, (hk 7 (by omega)).trans c7, ⟨⟨_, _, hsame⟩, (hk 8 (by omega)).trans ha.c0, (hk 9 (by omega)).trans ha.c1, fun a' b' h1 h2 => (hk _ (by omega)).trans (ha.said a' b' h1 h2)⟩, ⟨_, hc74, ?_⟩, (hk 75 (by omega)).trans c75, (hk 76 (by omega)).trans c76⟩, ⟨by simp, fun k _ h2 => Below.heap_setCell w _ _ k h2⟩, ?_⟩
  · rw [← hm]
    exact ownsRow_setCell_other hcut (by intro h; have := (hcut.lt p h).1; omega) _
  · unfold lenAt
    rw [hc74, h74]; dsimp only; omega

theorem walk_drew {w0 w : World} {p : Nat} {r : Rd} {cl : Option Int} {P : PathT} {vs vf vf2 : Value} (h : WalkAt w0 w p r cl P vs vf vf2) : WalkAt w0 w.drew p r cl P vs vf vf2 := by
  obtain ⟨va, g1, g2⟩ := h.above
  exact ⟨h.size, h.below.drew, h.c0, h.c1, h.c2, h.c5, h.c7, ⟨h.arcs.box, h.arcs.c0, h.arcs.c1, h.arcs.said⟩, ⟨va, g1, own_heap g2 rfl⟩, h.c75, h.c76⟩
theorem walk_free {w0 w w3 w4 : World} {p g m cv a b : Nat} {r : Rd} {cl : Option Int} {Q : PathT} {vs vf vf2 : Value} (hw : WalkAt w0 w p r cl (((a, b), false) :: Q) vs vf vf2) (h3 : Below w.heap.size w w3) (f1 : ArcsAt w4 p 8 r (upd (tabP (((a, b), false) :: Q)) a b 0) vf2)
    (f2 : ∀ k u, k < 8 ∨ 74 ≤ k → w.cell? ⟨p, k, none⟩ = some u → w4.cell? ⟨p, k, none⟩ = some u) (f3 : ∀ k, k < w3.heap.size → k ≠ p → w4.heap[k]? = w3.heap[k]?) (f4 : Below p w w4) (f5 : w3.heap.size ≤ w4.heap.size) (hT : tabP Q a b = 0) (hm : m = Q.length) (h74 : w.cell? ⟨p, 74, none⟩ = some (.slice (some ⟨g, 0, none⟩) (m + 1) cv)) :
    WalkAt w0 (w4.setCell ⟨p, 74, none⟩ (.slice (some ⟨g, 0, none⟩) m cv)) p r cl Q vs vf vf2 ∧ KeptB w (w4.setCell ⟨p, 74, none⟩ (.slice (some ⟨g, 0, none⟩) m cv)) p ∧ lenAt (w4.setCell ⟨p, 74, none⟩ (.slice (some ⟨g, 0, none⟩) m cv)) p < lenAt w p := by
  rw [leave_free hT] at f1
  obtain ⟨va, g74, hoa⟩ := hw.above
  have e74 := f2 74 _ (by omega) h74
  rw [h74] at g74
  cases g74
  have hoa3 := own_below hoa h3
  have hoa4 : w4.ownsRow (p + 1) 121 2 (.slice (some ⟨g, 0, none⟩) (m + 1) cv) (List.length (((a, b), false) :: Q)) (aboveC (((a, b), false) :: Q)) := own_other hoa3 (fun q hq => by have h9 := hoa3.lt q hq; exact f3 q h9.2 (by omega))
  have hk4 : KeptB w w4 p := ⟨Nat.le_trans h3.size f5, fun k h1 h2 => (f3 k (Nat.lt_of_lt_of_le h1 h3.size) h2).trans (h3.block k h1)⟩
  have hc := walk_cut2 hw.size (hw.below.trans f4) (f2 0 _ (by omega) hw.c0) (f2 1 _ (by omega) hw.c1) (f2 2 _ (by omega) hw.c2) (f2 5 _ (by omega) hw.c5) (f2 7 _ (by omega) hw.c7) (f2 75 _ (by omega) hw.c75) (f2 76 _ (by omega) hw.c76) f1 hm e74 hoa4
  refine ⟨hc.1, hk4.trans hc.2.1, ?_⟩
  have h9 := hc.2.2
  unfold lenAt at h9 ⊢
  rw [h74]
  rw [e74] at h9
  exact h9
set_option maxRecDepth 100000 in
set_option maxHeartbeats 4000000 in
theorem leave_any (w0 w : World) (p : Nat) (r : Rd) (cl : Option Int) (P : PathT) (vs vf : Value) (af : Option Addr) (cf : Nat) (hok : RdOk r) (hP : PathOk r.stops.length P) (hl : P.length ≤ 1000) (hw : WalkAt w0 w p r cl P vs vf (.slice af (r.stops.length + 1 : Nat) cf)) :
    Calls Try.prog 49 #[.pointer (some ⟨p, 8, none⟩)] w fun e w' => (∃ t, e = .returned (.bool t)) ∧ WalkAt w0 w' p r cl (leaveP P) vs vf (.slice af (r.stops.length + 1 : Nat) cf) ∧ KeptB w w' p := by
  have hns := hok.nstops
  have HW := hid hw
  have HP := hid hP
  clear hw hP
  go_enter Try.func49, Try.ntmps49
  go_wp2_with fail
  go_loopw [] (fun wr => ∃ Q : PathT, Hid (WalkAt w0 wr p r cl Q vs vf (.slice af (r.stops.length + 1 : Nat) cf)) ∧ Hid (PathOk r.stops.length Q) ∧ Q.length ≤ 1000 ∧ Hid (leaveP Q = leaveP P) ∧ Hid (KeptB w wr p)) (fun wr => lenAt wr p)
  case atStart => exact ⟨P, HW, HP, hl, rfl, Nat.le_refl _, fun _ _ _ => rfl⟩
  case round =>
    obtain ⟨Q, HQ, HPQ, hql, HLE, HK⟩ := hrel
    obtain ⟨va, g74, hoa⟩ := HQ.out.above
    obtain ⟨av, cv, rfl, _, _⟩ := own_val hoa
    have hp := HQ.out.arcs.lt
    have hfz := HQ.out.arcs.frozen 74
    have HOA := hid hoa
    clear hoa
    cases Q with
    | nil =>
      go_wp2_with fail
      go_ret
      exact ⟨⟨_, rfl⟩, (by rw [← HLE.out]; exact HQ.out), HK.out⟩
    | cons q Q =>
      obtain ⟨⟨a, b⟩, s⟩ := q
      have hlen : List.length (((a, b), s) :: Q) = Q.length + 1 := rfl
      rw [hlen] at g74 HOA hql
      obtain ⟨g, cap, cur, hva, hgp, _, _⟩ := own_shape HOA.out (by omega)
      cases hva
      have hgl : g < wr.heap.size := (HOA.out.lt g rfl).2
      obtain ⟨m, hm⟩ : ∃ m, m = Q.length := ⟨_, rfl⟩
      have hal : (aboveC Q).length = m * 2 := by
        rw [hm]; unfold aboveC
        have : ∀ L : PathT, ((L.map fun q => [Value.int .i64 q.1.1, Value.int .i64 q.1.2]).flatten).length = L.length * 2 := by
          intro L
          induction L with
          | nil => rfl
          | cons q L ih => simp only [List.map_cons, List.flatten_cons, List.length_append, ih]; simp; omega
        rw [this]; simp
      rw [← hm] at g74 HOA hql
      have r0 : wr.cell? ⟨g, m * 2, none⟩ = some (.int .i64 (a : Int)) := by
        have h1 := HOA.out.cellAt (m * 2) (by omega)
        rw [above_snoc, List.getElem?_append_right (by omega), hal, Nat.sub_self] at h1
        exact h1
      have r1 : wr.cell? ⟨g, m * 2 + 1, none⟩ = some (.int .i64 (b : Int)) := by
        have h1 := HOA.out.cellAt (m * 2 + 1) (by omega)
        rw [above_snoc, List.getElem?_append_right (by omega), hal, Nat.add_sub_cancel_left] at h1
        exact h1
      have HM := hid hm
      have wz : IntKind.i64.wrap (((m + 1 : Nat) : Int) - 1) = (m : Int) := by rw [i64_fits _ (by omega)]; omega
      have wz2 : IntKind.i64.wrap ((m : Int) + 1 - 1) = (m : Int) := by rw [i64_fits _ (by omega)]; omega
      have wz3 : IntKind.i64.wrap (m : Int) = (m : Int) := i64_fits _ (by omega)
      have im : (0 : Int) ≤ (m : Int) := by omega
      have jm : (m : Int) < (m : Int) + 1 := by omega
      have jm2 : (m : Int) < ((m + 1 : Nat) : Int) := by omega
      have HSD := hid (leave_said HPQ.out)
      have HAB : Hid (a ≤ r.stops.length ∧ b ≤ r.stops.length ∧ a ≠ b ∧ tabP Q a b = 0 ∧ PathOk r.stops.length Q) := by
        cases HPQ.out with
        | cons h1 h2 h3 h4 h5 => exact ⟨h1, h2, h3, h4, h5⟩
      obtain ⟨x, hx⟩ : ∃ x : Int, x = (a : Int) := ⟨_, rfl⟩
      obtain ⟨y, hy⟩ : ∃ y : Int, y = (b : Int) := ⟨_, rfl⟩
      rw [← hx] at r0 HSD
      rw [← hy] at r1 HSD
      have HX := hid hx
      have HY := hid hy
      clear hx hy hal hm hlen
      go_wp2_with fail
      go_region_held3 (fun w' => w'.cell? ⟨p, 74, none⟩ = some (.slice (some ⟨g, 0, none⟩) (m + 1) cv) ∧ w'.cell? ⟨g, m * 2, none⟩ = some (.int .i64 x) ∧ w'.cell? ⟨g, m * 2 + 1, none⟩ = some (.int .i64 y)) (go_keep) (fail)
      obtain ⟨W1, hW1⟩ : ∃ W1, W1 = (wr.alloc (.cells #[.int .i64 x, .int .i64 y] 121)).drew := ⟨_, rfl⟩
      rw [← hW1]
      have HB1 : Hid (Below wr.heap.size wr W1) := by rw [hW1]; exact (below1 wr _).drew
      have hbx : W1.heap[wr.heap.size]? = some (.cells #[.int .i64 x, .int .i64 y] 121 (0, 0)) := by rw [hW1]; exact heap_alloc_new wr _
      have k0 : W1.cell? ⟨wr.heap.size, 0, none⟩ = some (.int .i64 x) := cell_of_row W1 _ 0 _ _ _ hbx
      have k1 : W1.cell? ⟨wr.heap.size, 1, none⟩ = some (.int .i64 y) := cell_of_row W1 _ 1 _ _ _ hbx
      have kl : wr.heap.size < W1.heap.size := (Array.getElem?_eq_some_iff.1 hbx).1
      have HCW : Hid (∀ W, Below W1.heap.size W1 W → Calls Try.prog 61 #[.pointer (some ⟨p, 8, none⟩), .int .i64 x, .int .i64 y] W fun e w' => e = .returned (.int .i64 (if s = true then 1 else 2)) ∧ w'.cell? ⟨wr.heap.size, 0, none⟩ = some (.int .i64 x) ∧ w'.cell? ⟨wr.heap.size, 1, none⟩ = some (.int .i64 y) ∧ Hid (Below W1.heap.size W1 w')) := fun W hW => by
        have hWW := HB1.out.trans (hW.mono HB1.out.size)
        refine (said_any p 8 r (tabP (((a, b), s) :: Q)) af cf r.stops.length x y W hns (HQ.out.arcs.below hWW)).mono ?_
        rintro e w' ⟨h1, h2⟩
        have h3 : Below W1.heap.size W1 w' := hW.trans (h2.mono hW.size)
        rw [HSD.out] at h1
        exact ⟨h1, (h3.cell (by exact kl)).trans k0, (h3.cell (by exact kl)).trans k1, h3⟩
      have HBX := hid hbx
      clear hW1 hbx r0 r1
      cases s
      · have HCW2 : Hid (∀ W, Below W1.heap.size W1 W → Calls Try.prog 61 #[.pointer (some ⟨p, 8, none⟩), .int .i64 x, .int .i64 y] W fun e w' => e = .returned (.int .i64 2) ∧ w'.cell? ⟨wr.heap.size, 0, none⟩ = some (.int .i64 x) ∧ w'.cell? ⟨wr.heap.size, 1, none⟩ = some (.int .i64 y) ∧ Hid (Below W1.heap.size W1 w')) := HCW
        clear HCW HSD
        go_wp2_with fail
        go_region_held3 (fun w' => w'.cell? ⟨wr.heap.size, 0, none⟩ = some (.int .i64 x) ∧ w'.cell? ⟨wr.heap.size, 1, none⟩ = some (.int .i64 y)) (go_keep) (first | (go_at_call 61; refine (HCW2.out _ (by first | exact Below.refl _ _ | exact (Below.refl _ _).drew)).mono ?_; rintro e3 w3 ⟨rfl, z0, z1, HB3⟩))
        have HW3 : Hid (Below wr.heap.size wr w3) := HB1.out.trans (HB3.out.mono HB1.out.size)
        have HBX3 : Hid (w3.heap[wr.heap.size]? = _) := (HB3.out.block _ kl).trans HBX.out
        have hpw3 : p < w3.heap.size := Nat.lt_of_lt_of_le hp HW3.out.size
        have hbl3 : wr.heap.size < w3.heap.size := Nat.lt_of_lt_of_le kl HB3.out.size
        have HCX : Hid (∀ W, Below w3.heap.size w3 W → Calls Try.prog 62 #[.pointer (some ⟨p, 8, none⟩), .int .i64 x, .int .i64 y, .int .i64 0] W fun e w' => e = .returned (.tuple #[]) ∧ w'.cell? ⟨wr.heap.size, 0, none⟩ = some (.int .i64 x) ∧ w'.cell? ⟨wr.heap.size, 1, none⟩ = some (.int .i64 y) ∧ Hid (ArcsAt w' p 8 r (upd (tabP (((a, b), false) :: Q)) a b 0) (.slice af (r.stops.length + 1 : Nat) cf) ∧ (∀ k u, k < 8 ∨ 74 ≤ k → wr.cell? ⟨p, k, none⟩ = some u → w'.cell? ⟨p, k, none⟩ = some u) ∧ (∀ k, k < w3.heap.size → k ≠ p → w'.heap[k]? = w3.heap[k]?) ∧ Below p wr w' ∧ w3.heap.size ≤ w'.heap.size)) := fun W hW => by
          have hWW : Below wr.heap.size wr W := HW3.out.trans (hW.mono HW3.out.size)
          refine (say_any p 8 r (tabP (((a, b), false) :: Q)) af cf r.stops.length x y 0 W hns (HQ.out.arcs.below hWW)).mono ?_
          rintro e w' ⟨h1, h2, h3, h4, h5⟩
          have hbk : w'.heap[wr.heap.size]? = w3.heap[wr.heap.size]? := by
            rw [h4 _ (Nat.lt_of_lt_of_le hbl3 hW.size) (by omega)]; exact hW.block _ hbl3
          have hbk2 : w'.heap[wr.heap.size]? = some (.cells #[.int .i64 x, .int .i64 y] 121 (0, 0)) := hbk.trans HBX3.out
          rw [HX.out, HY.out, sayZ_arc HAB.out.1 HAB.out.2.1 HAB.out.2.2.1] at h2
          refine ⟨h1, cell_of_row w' _ 0 _ _ _ hbk2, cell_of_row w' _ 1 _ _ _ hbk2, h2, fun k u hk hu => h3 k u (by omega) ((hWW.cell (by exact hp)).trans hu), fun k hk hne => ?_, (hWW.mono (Nat.le_of_lt hp)).trans h5, Nat.le_trans hW.size h5.size⟩
          rw [h4 k (Nat.lt_of_lt_of_le hk hW.size) hne]; exact hW.block k hk
        clear HCW2 k0 k1 HBX
        go_wp2_with fail
        go_region_held3 (fun w' => w'.cell? ⟨wr.heap.size, 0, none⟩ = some (.int .i64 x) ∧ w'.cell? ⟨wr.heap.size, 1, none⟩ = some (.int .i64 y)) (go_keep) (first | (go_at_call 62; refine (HCX.out _ (by first | exact Below.refl _ _ | exact (Below.refl _ _).drew)).mono ?_; rintro e4 w4 ⟨rfl, t0, t1, HF4⟩))
        clear HCX z0 z1 t0 t1
        have a74 : w4.cell? ⟨p, 74, none⟩ = some (.slice (some ⟨g, 0, none⟩) (m + 1) cv) := HF4.out.2.1 74 _ (by omega) g74
        have hp4 : p < w4.heap.size := HF4.out.1.lt
        have hf4 := HF4.out.1.frozen 74
        have h1m : (m : Int) ≤ (cv : Int) := by have := own_cap HOA.out; omega
        have h0m : (0 : Int) ≤ (m : Int) := by omega
        go_wp2_with fail
        go_region
        all_goals
          go_wp2
          have hab := HAB.out
          have hfin := walk_free HQ.out HW3.out HF4.out.1 HF4.out.2.1 HF4.out.2.2.1 HF4.out.2.2.2.1 HF4.out.2.2.2.2 hab.2.2.2.1 HM.out g74
          exact ⟨⟨Q, walk_drew hfin.1, hab.2.2.2.2, by have := HM.out; omega, by show _ = _; rw [← HLE.out]; rfl, HK.out.trans ⟨hfin.2.1.1, hfin.2.1.2⟩⟩, hfin.2.2⟩
      · have HCW2 : Hid (∀ W, Below W1.heap.size W1 W → Calls Try.prog 61 #[.pointer (some ⟨p, 8, none⟩), .int .i64 x, .int .i64 y] W fun e w' => e = .returned (.int .i64 1) ∧ w'.cell? ⟨wr.heap.size, 0, none⟩ = some (.int .i64 x) ∧ w'.cell? ⟨wr.heap.size, 1, none⟩ = some (.int .i64 y) ∧ Hid (Below W1.heap.size W1 w')) := HCW
        clear HCW HSD
        go_wp2_with fail
        go_region_held3 (fun w' => w'.cell? ⟨wr.heap.size, 0, none⟩ = some (.int .i64 x) ∧ w'.cell? ⟨wr.heap.size, 1, none⟩ = some (.int .i64 y)) (go_keep) (first | (go_at_call 61; refine (HCW2.out _ (by first | exact Below.refl _ _ | exact (Below.refl _ _).drew)).mono ?_; rintro e3 w3 ⟨rfl, z0, z1, HB3⟩))
        have HW3 : Hid (Below wr.heap.size wr w3) := HB1.out.trans (HB3.out.mono HB1.out.size)
        have HBX3 : Hid (w3.heap[wr.heap.size]? = _) := (HB3.out.block _ kl).trans HBX.out
        have hpw3 : p < w3.heap.size := Nat.lt_of_lt_of_le hp HW3.out.size
        have hbl3 : wr.heap.size < w3.heap.size := Nat.lt_of_lt_of_le kl HB3.out.size
        have HCX : Hid (∀ W, Below w3.heap.size w3 W → Calls Try.prog 62 #[.pointer (some ⟨p, 8, none⟩), .int .i64 x, .int .i64 y, .int .i64 2] W fun e w' => e = .returned (.tuple #[]) ∧ w'.cell? ⟨wr.heap.size, 0, none⟩ = some (.int .i64 x) ∧ w'.cell? ⟨wr.heap.size, 1, none⟩ = some (.int .i64 y) ∧ Hid (ArcsAt w' p 8 r (upd (tabP (((a, b), true) :: Q)) a b 2) (.slice af (r.stops.length + 1 : Nat) cf) ∧ (∀ k u, k < 8 ∨ 74 ≤ k → wr.cell? ⟨p, k, none⟩ = some u → w'.cell? ⟨p, k, none⟩ = some u) ∧ (∀ k, k < w3.heap.size → k ≠ p → w'.heap[k]? = w3.heap[k]?) ∧ Below p wr w' ∧ w3.heap.size ≤ w'.heap.size)) := fun W hW => by
          have hWW : Below wr.heap.size wr W := HW3.out.trans (hW.mono HW3.out.size)
          refine (say_any p 8 r (tabP (((a, b), true) :: Q)) af cf r.stops.length x y 2 W hns (HQ.out.arcs.below hWW)).mono ?_
          rintro e w' ⟨h1, h2, h3, h4, h5⟩
          have hbk : w'.heap[wr.heap.size]? = w3.heap[wr.heap.size]? := by
            rw [h4 _ (Nat.lt_of_lt_of_le hbl3 hW.size) (by omega)]; exact hW.block _ hbl3
          have hbk2 : w'.heap[wr.heap.size]? = some (.cells #[.int .i64 x, .int .i64 y] 121 (0, 0)) := hbk.trans HBX3.out
          rw [HX.out, HY.out, sayZ_arc HAB.out.1 HAB.out.2.1 HAB.out.2.2.1] at h2
          refine ⟨h1, cell_of_row w' _ 0 _ _ _ hbk2, cell_of_row w' _ 1 _ _ _ hbk2, h2, fun k u hk hu => h3 k u (by omega) ((hWW.cell (by exact hp)).trans hu), fun k hk hne => ?_, (hWW.mono (Nat.le_of_lt hp)).trans h5, Nat.le_trans hW.size h5.size⟩
          rw [h4 k (Nat.lt_of_lt_of_le hk hW.size) hne]; exact hW.block k hk
        clear HCW2 k0 k1 HBX
        go_wp2_with fail
        go_region_held3 (fun w' => w'.cell? ⟨wr.heap.size, 0, none⟩ = some (.int .i64 x) ∧ w'.cell? ⟨wr.heap.size, 1, none⟩ = some (.int .i64 y)) (go_keep) (first | (go_at_call 62; refine (HCX.out _ (by first | exact Below.refl _ _ | exact (Below.refl _ _).drew)).mono ?_; rintro e4 w4 ⟨rfl, t0, t1, HF4⟩))
        clear HCX z0 z1 t0 t1
        have HLV : Hid (leaveP P = ((a, b), false) :: Q) := by show _ = _; rw [← HLE.out]; rfl
        go_wp2
        go_ret
        have hfin := walk_say (Q := ((a, b), false) :: Q) HQ.out HW3.out HF4.out.1 HF4.out.2.1 HF4.out.2.2.1 HF4.out.2.2.2.1 HF4.out.2.2.2.2 (leave_over a b true Q) (by simp [aboveC]) rfl
        exact ⟨⟨_, rfl⟩, by rw [HLV.out]; exact hfin.1, HK.out.trans hfin.2⟩
end Go.Proofs.Ytebinaopncclgab
