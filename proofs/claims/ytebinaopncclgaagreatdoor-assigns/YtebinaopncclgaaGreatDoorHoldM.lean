/- Walks of the statements: lists are held, one after the other; a match. -/
import Derived.Test.YtebinaopncclgaaGreatDoorHoldQ
import Derived.Test.YtebinaopncclgaaGreatDoorABest
namespace Go.Proofs.YtebinaopncclgaaGreatDoor
open Go.RowKit Go.IntWalk

/- behind some lists: what is held, and what is as it was -/
structure LSt (w0 w : World) (B bb hb : Nat) (vi0 vi vr vs vd vn : Value) (I L R S D N us : List Value) : Prop where
  hold : HoldIs w bb w.heap.size hb vi vr vs vd vn (I ++ L) R S D N
  sep : Sep vi R
  own : ∀ q, vi.ownBlock = some q → vi0.ownBlock = some q ∨ w0.heap.size ≤ q
  blk : L.map Value.ownBlock = us.map Value.ownBlock
  size : w0.heap.size ≤ w.heap.size
  keep : ∀ q, q < w0.heap.size → q ≠ hb → vi0.ownBlock ≠ some q → (∀ u ∈ us, u.ownBlock ≠ some q) → w.heap[q]? = w0.heap[q]?
  below : Below bb w0 w
theorem lst_begin {w : World} {B bb bd hb : Nat} {vi vr vs vd vn : Value} {I R S D N : List Value} (h : HoldIs w bb bd hb vi vr vs vd vn I R S D N) (hbd : bd ≤ w.heap.size) (hs : Sep vi R) : LSt w w B bb hb vi vi vr vs vd vn I [] R S D N [] :=
  ⟨by rw [List.append_nil]; exact h.below (Below.refl _ _) hbd, hs, fun q hq => .inl hq, rfl, Nat.le_refl _, fun _ _ _ _ _ => rfl, Below.refl _ _⟩
theorem LSt.from {w0 w w' : World} {B bb hb : Nat} {vi0 vi vr vs vd vn : Value} {I L R S D N us : List Value} (h : LSt w0 w B bb hb vi0 vi vr vs vd vn I L R S D N us) (hb' : Below w.heap.size w w') : LSt w0 w' B bb hb vi0 vi vr vs vd vn I L R S D N us :=
  ⟨h.hold.below hb' hb'.size, h.sep, h.own, h.blk, Nat.le_trans h.size hb'.size, fun q hq h1 h2 h3 => (hb'.block q (Nat.lt_of_lt_of_le hq h.size)).trans (h.keep q hq h1 h2 h3), h.below.trans (hb'.mono (Nat.le_trans (Nat.le_of_lt (Nat.lt_of_le_of_lt h.hold.lo (Array.getElem?_eq_some_iff.1 h.hold.box).1)) (Nat.le_refl _)))⟩
theorem own_blk {w w' : World} {B n size : Nat} {e : TypeId} {v : Value} {xs : List Value} (h : w.ownsRow B e size v n xs) (hb : ∀ q, v.ownBlock = some q → w'.heap[q]? = w.heap[q]?) : w'.ownsRow B e size v n xs := by
  refine ⟨h.1, ?_⟩
  rcases h.2 with h1 | ⟨g, cap, cur, h1, h2, h3, h4⟩
  · exact .inl h1
  · exact .inr ⟨g, cap, cur, h1, h2, (hb g (by rw [h1]; rfl)).trans h3, h4⟩
theorem own_blk_lt {w : World} {B n size : Nat} {e : TypeId} {v : Value} {xs : List Value} (h : w.ownsRow B e size v n xs) {q : Nat} (hq : v.ownBlock = some q) : B ≤ q ∧ q < w.heap.size ∧ ∃ cur, w.heap[q]? = some (.cells cur e (0, 0)) := by
  rcases h.2 with ⟨h1, _⟩ | ⟨g, cap, cur, h1, h2, h3, h4⟩
  · rw [h1] at hq; cases hq
  · rw [h1] at hq; cases hq; exact ⟨h2, (Array.getElem?_eq_some_iff.1 h3).1, cur, h3⟩
theorem hold_next {w0 w : World} {B bb hb n : Nat} {vi0 vi vr vs vd vn u : Value} {I L R S D N us zs : List Value} (h : LSt w0 w B bb hb vi0 vi vr vs vd vn I L R S D N us) (hI : I.length + L.length ≤ 9300000000000) (hbB : bb ≤ B) (hvB : ∀ q, vi0.ownBlock = some q → q < B) (hhB : hb < B) (hIB : ∀ i (h : i < I.length), ∀ g c, I[i] = .slice (some ⟨g, 0, none⟩) c c → 0 < c → g < B)
    (hu : w0.ownsRow B 3 1 u n zs) (hn : ∀ x ∈ us, ∀ q, x.ownBlock = some q → u.ownBlock ≠ some q) :
    Calls Tryz.prog 38 #[.pointer (some ⟨hb, 0, none⟩), u] w fun e w' => ∃ vi' s1, e = .returned (.tuple #[]) ∧ LSt w0 w' B bb hb vi0 vi' vr vs vd vn I (L ++ [s1]) R S D N (us ++ [u]) := by
  have hu1 : w.ownsRow B 3 1 u n zs := own_blk hu fun q hq => by
    obtain ⟨h1, h2, _⟩ := own_blk_lt hu hq
    exact h.keep q h2 (by omega) (fun e => by have := hvB q e; omega) (fun x hx e => hn x hx q e hq)
  have hbb : bb ≤ w.heap.size := Nat.le_of_lt (Nat.lt_of_le_of_lt h.hold.lo (Array.getElem?_eq_some_iff.1 h.hold.box).1)
  refine (list_walk bb w.heap.size hb B n vi vr vs vd vn (I ++ L) R S D N u zs w h.hold (by simpa using hI) (Nat.le_refl _) hbb h.sep hu1 (fun i hi g c e hc he => ?_)).mono ?_
  · by_cases hxI : i < I.length
    · rw [List.getElem_append_left hxI] at e
      have := hIB i hxI g c e hc
      have := (own_blk_lt hu he).1
      omega
    · have hxL : i - I.length < L.length := by simp at hi; omega
      rw [List.getElem_append_right (by omega)] at e
      have h1 : (L.map Value.ownBlock)[i - I.length]? = some (some g) := by
        rw [List.getElem?_map, List.getElem?_eq_getElem hxL, e]; rfl
      rw [h.blk, List.getElem?_map] at h1
      cases hx : us[i - I.length]? with
      | none => rw [hx] at h1; cases h1
      | some x =>
        rw [hx] at h1
        exact hn x (List.mem_of_getElem? hx) g (by simpa using h1) he
  · rintro e w' ⟨vi', s1, rfl, h1, h2, h3, h4, h5, h6, h7⟩
    refine ⟨vi', s1, rfl, by rw [← List.append_assoc]; exact h1, h2, fun q hq => ?_, by rw [List.map_append, List.map_append, h.blk]; simp [h4], Nat.le_trans h.size h5, fun q hq k1 k2 k3 => ?_, h.below.trans (h7.mono (by omega))⟩
    · rcases h3 with h8 | ⟨g, h8, h9⟩
      · rw [h8] at hq; exact h.own q hq
      · rw [h8] at hq; cases hq; right; have := h.size; omega
    · rw [h6 q (Nat.lt_of_lt_of_le hq h.size) k1 (fun e => by
        rcases h.own q e with h8 | h8
        · exact k2 h8
        · omega) (k3 u (by simp))]
      exact h.keep q hq k1 k2 (fun x hx => k3 x (by simp [hx]))
theorem RowAt.own {w : World} {B g n : Nat} {f : Nat → Int} (h : RowAt w g n f) (hB : B ≤ g) (hn : n ≤ 10) : ∃ zs, w.ownsRow B 3 1 (.slice (some ⟨g, 0, none⟩) n n) n zs := by
  obtain ⟨cs, hc, hs, _⟩ := h
  exact ⟨cs.toList, by simp [hs], .inr ⟨g, n, cs, rfl, hB, hc, Nat.le_refl _, by unfold maxLen; omega, by simp [hs], by rw [Nat.mul_one, ← hs]; exact List.take_of_length_le (by simp)⟩⟩

set_option maxRecDepth 100000 in
set_option maxHeartbeats 2000000 in
theorem match_walk (bb bd hb B : Nat) (x0 x1 v1 v2 v3 v4 : Value) (n1 n2 n3 n4 : Nat) (y1 y2 y3 y4 : List Value) (vi vr vs vd vn : Value) (I R S D N : List Value) (w : World) (h : HoldIs w bb bd hb vi vr vs vd vn I R S D N) (hI : I.length ≤ 9200000000000) (hbd : bd ≤ B) (hBw : B ≤ w.heap.size) (hbB : bb ≤ B) (hsep : Sep vi R) (hvB : ∀ q, vi.ownBlock = some q → q < B) (hhB : hb < B)
    (h1 : w.ownsRow B 3 1 v1 n1 y1) (h2 : w.ownsRow B 3 1 v2 n2 y2) (h3 : w.ownsRow B 3 1 v3 n3 y3) (h4 : w.ownsRow B 3 1 v4 n4 y4)
    (d12 : ∀ q, v1.ownBlock = some q → v2.ownBlock ≠ some q) (d13 : ∀ q, v1.ownBlock = some q → v3.ownBlock ≠ some q) (d23 : ∀ q, v2.ownBlock = some q → v3.ownBlock ≠ some q) (d4 : v4.ownBlock = none ∨ (v1.ownBlock = none ∧ v2.ownBlock = none ∧ v3.ownBlock = none)) :
    Calls Tryz.prog 43 #[.pointer (some ⟨hb, 0, none⟩), .agg #[x0, x1, v1, v2, v3, v4]] w fun e w' => ∃ vi' L, e = .returned (.tuple #[]) ∧ HoldIs w' bb w'.heap.size hb vi' vr vs vd vn (I ++ L) R S D N ∧ L.length = 4 ∧ Sep vi' R ∧ (∀ q, q < B → q ≠ hb → vi.ownBlock ≠ some q → w'.heap[q]? = w.heap[q]?) ∧ Below bb w w' := by
  obtain ⟨W, hW⟩ : ∃ W, W = w.alloc (.cells #[x0, x1, v1, v2, v3, v4] 86) := ⟨_, rfl⟩
  have hbW : Below w.heap.size w W := by rw [hW]; exact below1 w _
  have hzW : W.heap[w.heap.size]? = some (.cells #[x0, x1, v1, v2, v3, v4] 86 (0, 0)) := by rw [hW]; exact heap_alloc_new w _
  have hIB : ∀ i (h : i < I.length), ∀ g c, I[i] = .slice (some ⟨g, 0, none⟩) c c → 0 < c → g < B := fun i hi g c e hc => by have := (h.fi i hi).lt g c e hc; omega
  have hsW : w.heap.size < W.heap.size := (Array.getElem?_eq_some_iff.1 hzW).1
  have HL0 := hid (lst_begin (B := B) (h.below hbW (Nat.le_refl bd)) (by omega) hsep)
  have H1 := hid (own_below h1 hbW)
  have H2 := hid (own_below h2 hbW)
  have H3 := hid (own_below h3 hbW)
  have H4 := hid (own_below h4 hbW)
  have HN : Hid (∀ v ∈ [v1, v2, v3, v4], ∀ q, v.ownBlock = some q → B ≤ q ∧ q ≠ w.heap.size) := fun v hv q hq => by
    simp only [List.mem_cons, List.not_mem_nil, or_false] at hv
    rcases hv with rfl | rfl | rfl | rfl
    · have := own_blk_lt h1 hq; exact ⟨this.1, by omega⟩
    · have := own_blk_lt h2 hq; exact ⟨this.1, by omega⟩
    · have := own_blk_lt h3 hq; exact ⟨this.1, by omega⟩
    · have := own_blk_lt h4 hq; exact ⟨this.1, by omega⟩
  have hbx : Hid (∀ {w' : World} {vi' : Value} {L us : List Value}, LSt W w' B bb hb vi vi' vr vs vd vn I L R S D N us → (∀ u ∈ us, u ∈ [v1, v2, v3, v4]) → w'.heap[w.heap.size]? = some (.cells #[x0, x1, v1, v2, v3, v4] 86 (0, 0))) := fun hh hu =>
    (hh.keep w.heap.size hsW (by omega) (fun e => by have := hvB _ e; omega) (fun u hm e => (HN.out u (hu u hm) _ e).2 rfl)).trans hzW
  have HBW := hid hbW
  have HVB := hid hvB
  have HIB := hid hIB
  have D12 := hid d12
  have D13 := hid d13
  have D23 := hid d23
  have D4 := hid d4
  have hbWb : bb ≤ w.heap.size := by omega
  have HWQ := hid hW
  clear h h1 h2 h3 h4 hsep hvB hIB d12 d13 d23 d4 hbW hzW
  go_enter Tryz.func43, Tryz.ntmps43
  go_wp2_with fail
  rw [← HWQ.out]
  refine (hold_next (n := n1) (zs := y1) HL0.out (by simp; omega) hbB HVB.out hhB HIB.out H1.out (fun x hx => by cases hx)).mono ?_
  rintro e1 w1 ⟨u1, s1, rfl, k1⟩
  obtain ⟨zl, z0, z1, z2, z3, z4, z5, zf⟩ := six_at (hbx.out k1 (by simp))
  have K1 := hid k1
  clear k1 HL0 HWQ hW
  go_wp2_with fail
  refine (hold_next (n := n2) (zs := y2) K1.out (by simp; omega) hbB HVB.out hhB HIB.out H2.out (fun x hx q hq => by
    simp only [List.nil_append, List.mem_singleton] at hx
    subst hx; exact D12.out q hq)).mono ?_
  rintro e2 w2 ⟨u2, s2, rfl, k2⟩
  clear zl z0 z1 z2 z3 z4 z5 zf
  obtain ⟨zl, z0, z1, z2, z3, z4, z5, zf⟩ := six_at (hbx.out k2 (by simp))
  have K2 := hid k2
  clear k2 K1
  go_wp2_with fail
  refine (hold_next (n := n3) (zs := y3) K2.out (by simp; omega) hbB HVB.out hhB HIB.out H3.out (fun x hx q hq => by
    simp only [List.nil_append, List.cons_append, List.mem_cons, List.not_mem_nil, or_false] at hx
    rcases hx with rfl | rfl
    · exact D13.out q hq
    · exact D23.out q hq)).mono ?_
  rintro e3 w3 ⟨u3, s3, rfl, k3⟩
  clear zl z0 z1 z2 z3 z4 z5 zf
  obtain ⟨zl, z0, z1, z2, z3, z4, z5, zf⟩ := six_at (hbx.out k3 (by simp))
  have K3 := hid k3
  clear k3 K2
  go_wp2_with fail
  refine (hold_next (n := n4) (zs := y4) K3.out (by simp; omega) hbB HVB.out hhB HIB.out H4.out (fun x hx q hq e => by
    simp only [List.nil_append, List.cons_append, List.mem_cons, List.not_mem_nil, or_false] at hx
    rcases D4.out with d | ⟨da, db, dc⟩
    · rw [d] at e; cases e
    · rcases hx with rfl | rfl | rfl
      · rw [da] at hq; cases hq
      · rw [db] at hq; cases hq
      · rw [dc] at hq; cases hq)).mono ?_
  rintro e4 w4 ⟨u4, s4, rfl, k4⟩
  have K4 := hid k4
  clear k4 K3 zl z0 z1 z2 z3 z4 z5 zf
  go_wp2_with fail
  refine bodyPost_end (v := .tuple #[]) (by simp [results, Tryz.results43, go_sem]) rfl ?_
  refine ⟨u4, _, rfl, K4.out.hold, by simp, K4.out.sep, fun q hq h1 h2 => ?_, (HBW.out.mono hbWb).trans K4.out.below⟩
  rw [K4.out.keep q (by omega) h1 h2 (fun u hu e => by
    have := (HN.out u (by simpa using hu) q e).1
    omega)]
  exact HBW.out.block q (by omega)
end Go.Proofs.YtebinaopncclgaaGreatDoor
