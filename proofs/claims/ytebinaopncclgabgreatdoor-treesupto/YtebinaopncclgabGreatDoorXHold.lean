/- Walks of the statements: a tree is held. -/
import Derived.Test.YtebinaopncclgabGreatDoorHoldQ
import Derived.Test.YtebinaopncclgabGreatDoorAMatch
import Derived.Test.YtebinaopncclgabGreatDoorAShort
import Derived.Test.YtebinaopncclgabGreatDoorTRead
import Derived.Test.YtebinaopncclgabGreatDoorGNodes
namespace Go.Proofs.YtebinaopncclgabGreatDoor
open Go.RowKit Go.IntWalk

/- behind some lists: what is held, and what is as it was -/
structure LSt (w0 w : World) (B bb hb : Nat) (vi0 vi vr vs vd vn : Value) (I L R S D N us : List Value) : Prop where
  hold : HoldIs w bb w.heap.size hb vi vr vs vd vn (I ++ L) R S D N
  sep : Sep vi R
  own : ∀ q, vi.ownBlock = some q → vi0.ownBlock = some q ∨ w0.heap.size ≤ q
  blk : L.map Value.ownBlock = us.map Value.ownBlock
  size : w0.heap.size ≤ w.heap.size
  keep : ∀ q, q < w0.heap.size → q ≠ hb → vi0.ownBlock ≠ some q → (∀ u ∈ us, u.ownBlock ≠ some q) → w.heap[q]? = w0.heap[q]?
  below : Below bb w0 w
theorem lst_begin {w : World} {B bb bd hb : Nat} {vi vr vs vd vn : Value} {I R S D N : List Value} (h : HoldIs w bb bd hb vi vr vs vd vn I R S D N) (hbd : bd ≤ w.heap.size) (hs : Sep vi R) : LSt w w B bb hb vi vi vr vs vd vn I [] R S D N [] :=
  ⟨by rw [List.append_nil]; exact h.below (Below.refl _ _) hbd, hs, fun q hq => .inl hq, rfl, Nat.le_refl _, fun _ _ _ _ _ => rfl, Below.refl _ _⟩
theorem LSt.from {w0 w w' : World} {B bb hb : Nat} {vi0 vi vr vs vd vn : Value} {I L R S D N us : List Value} (h : LSt w0 w B bb hb vi0 vi vr vs vd vn I L R S D N us) (hb' : Below w.heap.size w w') : LSt w0 w' B bb hb vi0 vi vr vs vd vn I L R S D N us :=
  ⟨h.hold.below hb' hb'.size, h.sep, h.own, h.blk, Nat.le_trans h.size hb'.size, fun q hq h1 h2 h3 => (hb'.block q (Nat.lt_of_lt_of_le hq h.size)).trans (h.keep q hq h1 h2 h3), h.below.trans (hb'.mono (Nat.le_trans (Nat.le_of_lt (Nat.lt_of_le_of_lt h.hold.lo (Array.getElem?_eq_some_iff.1 h.hold.box).1)) (Nat.le_refl _)))⟩
theorem own_blk {w w' : World} {B n size : Nat} {e : TypeId} {v : Value} {xs : List Value} (h : w.ownsRow B e size v n xs) (hb : ∀ q, v.ownBlock = some q → w'.heap[q]? = w.heap[q]?) : w'.ownsRow B e size v n xs := by
  refine ⟨h.1, ?_⟩
  rcases h.2 with h1 | ⟨g, cap, cur, h1, h2, h3, h4⟩
  · exact .inl h1
  · exact .inr ⟨g, cap, cur, h1, h2, (hb g (by rw [h1]; rfl)).trans h3, h4⟩
theorem own_blk_lt {w : World} {B n size : Nat} {e : TypeId} {v : Value} {xs : List Value} (h : w.ownsRow B e size v n xs) {q : Nat} (hq : v.ownBlock = some q) : B ≤ q ∧ q < w.heap.size ∧ ∃ cur, w.heap[q]? = some (.cells cur e (0, 0)) := by
  rcases h.2 with ⟨h1, _⟩ | ⟨g, cap, cur, h1, h2, h3, h4⟩
  · rw [h1] at hq; cases hq
  · rw [h1] at hq; cases hq; exact ⟨h2, (Array.getElem?_eq_some_iff.1 h3).1, cur, h3⟩
theorem hold_next {w0 w : World} {B bb hb n : Nat} {vi0 vi vr vs vd vn u : Value} {I L R S D N us zs : List Value} (h : LSt w0 w B bb hb vi0 vi vr vs vd vn I L R S D N us) (hI : I.length + L.length ≤ 9300000000000) (hbB : bb ≤ B) (hvB : ∀ q, vi0.ownBlock = some q → q < B) (hhB : hb < B) (hIB : ∀ i (h : i < I.length), ∀ g c, I[i] = .slice (some ⟨g, 0, none⟩) c c → 0 < c → g < B)
    (hu : w0.ownsRow B 3 1 u n zs) (hn : ∀ x ∈ us, ∀ q, x.ownBlock = some q → u.ownBlock ≠ some q) :
    Calls Tryz.prog 60 #[.pointer (some ⟨hb, 0, none⟩), u] w fun e w' => ∃ vi' s1, e = .returned (.tuple #[]) ∧ LSt w0 w' B bb hb vi0 vi' vr vs vd vn I (L ++ [s1]) R S D N (us ++ [u]) := by
  have hu1 : w.ownsRow B 3 1 u n zs := own_blk hu fun q hq => by
    obtain ⟨h1, h2, _⟩ := own_blk_lt hu hq
    exact h.keep q h2 (by omega) (fun e => by have := hvB q e; omega) (fun x hx e => hn x hx q e hq)
  have hbb : bb ≤ w.heap.size := Nat.le_of_lt (Nat.lt_of_le_of_lt h.hold.lo (Array.getElem?_eq_some_iff.1 h.hold.box).1)
  refine (list_walk bb w.heap.size hb B n vi vr vs vd vn (I ++ L) R S D N u zs w h.hold (by simpa using hI) (Nat.le_refl _) hbb h.sep hu1 (fun i hi g c e hc he => ?_)).mono ?_
  · by_cases hxI : i < I.length
    · rw [List.getElem_append_left hxI] at e
      have := hIB i hxI g c e hc
      have := (own_blk_lt hu he).1
      omega
    · have hxL : i - I.length < L.length := by simp at hi; omega
      rw [List.getElem_append_right (by omega)] at e
      have h1 : (L.map Value.ownBlock)[i - I.length]? = some (some g) := by
        rw [List.getElem?_map, List.getElem?_eq_getElem hxL, e]; rfl
      rw [h.blk, List.getElem?_map] at h1
      cases hx : us[i - I.length]? with
      | none => rw [hx] at h1; cases h1
      | some x =>
        rw [hx] at h1
        exact hn x (List.mem_of_getElem? hx) g (by simpa using h1) he
  · rintro e w' ⟨vi', s1, rfl, h1, h2, h3, h4, h5, h6, h7⟩
    refine ⟨vi', s1, rfl, by rw [← List.append_assoc]; exact h1, h2, fun q hq => ?_, by rw [List.map_append, List.map_append, h.blk]; simp [h4], Nat.le_trans h.size h5, fun q hq k1 k2 k3 => ?_, h.below.trans (h7.mono (by omega))⟩
    · rcases h3 with h8 | ⟨g, h8, h9⟩
      · rw [h8] at hq; exact h.own q hq
      · rw [h8] at hq; cases hq; right; have := h.size; omega
    · rw [h6 q (Nat.lt_of_lt_of_le hq h.size) k1 (fun e => by
        rcases h.own q e with h8 | h8
        · exact k2 h8
        · omega) (k3 u (by simp))]
      exact h.keep q hq k1 k2 (fun x hx => k3 x (by simp [hx]))
theorem RowAt.own {w : World} {B g n : Nat} {f : Nat → Int} (h : RowAt w g n f) (hB : B ≤ g) (hn : n ≤ 10) : ∃ zs, w.ownsRow B 3 1 (.slice (some ⟨g, 0, none⟩) n n) n zs := by
  obtain ⟨cs, hc, hs, _⟩ := h
  exact ⟨cs.toList, by simp [hs], .inr ⟨g, n, cs, rfl, hB, hc, Nat.le_refl _, by unfold maxLen; omega, by simp [hs], by rw [Nat.mul_one, ← hs]; exact List.take_of_length_le (by simp)⟩⟩

end Go.Proofs.YtebinaopncclgabGreatDoor
namespace Go.Proofs.YtebinaopncclgabGreatDoor
open Go.RowKit Go.IntWalk

/- a square that came out, whose blocks lie from B on; n = 0: none -/
structure SqO (w : World) (B : Nat) (ao : Option Addr) (n : Nat) (g : Nat) (G : Nat → Nat) : Prop where
  nil : n = 0 → ao = none
  blk : 0 < n → ao = some ⟨g, 0, none⟩ ∧ B ≤ g ∧ ∃ cur, w.heap[g]? = some (.cells cur 40 (0, 0)) ∧ cur.size = n ∧ ∀ i, i < n → cur[i]? = some (.slice (some ⟨G i, 0, none⟩) n n)
  row : ∀ i, i < n → B ≤ G i ∧ ∃ ci, w.heap[G i]? = some (.cells ci 3 (0, 0)) ∧ ci.size = n
  inc : ∀ i i', i < i' → i' < n → G i < G i'
theorem SqO.below {w w' : World} {B n g : Nat} {ao : Option Addr} {G : Nat → Nat} (h : SqO w B ao n g G) (hb : Below w.heap.size w w') : SqO w' B ao n g G :=
  ⟨h.nil, fun h0 => by
    obtain ⟨h1, h2, cur, h3, h4⟩ := h.blk h0
    exact ⟨h1, h2, cur, by rw [hb.block _ (Array.getElem?_eq_some_iff.1 h3).1]; exact h3, h4⟩, fun i hi => by
    obtain ⟨h1, ci, h2, h3⟩ := h.row i hi
    exact ⟨h1, ci, by rw [hb.block _ (Array.getElem?_eq_some_iff.1 h2).1]; exact h2, h3⟩, h.inc⟩
end Go.Proofs.YtebinaopncclgabGreatDoor
namespace Go.Proofs.YtebinaopncclgabGreatDoor
open Go.RowKit Go.IntWalk

theorem Tryz.infoNds : (Tryz.prog.info? 56).map (fun i => (i.zero, i.size, i.bytes)) = some (some (.slice none 0 0), 1, 24) := by kernel_rfl
theorem hold_node {w X w1 wr : World} {bb bd bd' hb : Nat} {vi vr vs vd vn v' s : Value} {I R S D N : List Value} (h : HoldIs w bb bd hb vi vr vs vd vn I R S D N) (hX : Below w.heap.size w X) (hg1 : X.grownBy w1 vn.ownBlock) (ho : w1.ownsRow bb 56 1 v' (N.length + 1) (N ++ [s]))
    (hg2 : (w1.setCell ⟨hb, 4, none⟩ v').grownBy wr s.ownBlock) (hs : ∀ k, s.ownBlock = some k → (∀ i (h : i < N.length), ∀ g c, N[i] = .slice (some ⟨g, 0, none⟩) c c → 0 < c → g ≠ k) ∧ ∃ cur, (w1.setCell ⟨hb, 4, none⟩ v').heap[k]? = some (.cells cur 76 (0, 0))) (hf : Full wr bd' 76 2 (isNode N.length) s) (hbd : bd ≤ bd') :
    HoldIs wr bb bd' hb vi vr vs vd v' I R S D (N ++ [s]) := by
  have hX' := h.below hX (Nat.le_refl bd)
  have k1 : Keep [56] X w1 := Keep.grown hX'.on (by simp) hg1
  have hbox : w1.heap[hb]? = some (.cells #[vi, vr, vs, vd, vn] 55 (0, 0)) := k1 _ _ _ _ hX'.box (by decide)
  have k2 : Keep [55] w1 (w1.setCell ⟨hb, 4, none⟩ v') := Keep.setCell hbox (by simp) v'
  have k3 : Keep [76] (w1.setCell ⟨hb, 4, none⟩ v') wr := grow_keep hg2 (fun k e => (hs k e).2)
  have hbox2 : (w1.setCell ⟨hb, 4, none⟩ v').heap[hb]? = some (.cells #[vi, vr, vs, vd, v'] 55 (0, 0)) := heap_setCell_same w1 hb 4 _ _ v' hbox
  have ow : ∀ {e : TypeId} {size n : Nat} {v : Value} {xs : List Value}, X.ownsRow bb e size v n xs → e ∉ [56, 55, 76] → wr.ownsRow bb e size v n xs := by
    intro e size n v xs hv he
    simp only [List.mem_cons, List.not_mem_nil, or_false, not_or] at he
    exact own_keep (own_keep (own_keep hv k1 (by simp [he.1])) k2 (by simp [he.2.1])) k3 (by simp [he.2.2])
  have fl : ∀ {e : TypeId} {size : Nat} {P : Nat → Value → Prop} {v : Value}, Full X bd e size P v → e ∉ [56, 55, 76] → Full wr bd' e size P v := by
    intro e size P v hv he
    simp only [List.mem_cons, List.not_mem_nil, or_false, not_or] at he
    exact ((hv.keep k1 (by simp [he.1]) (Nat.le_refl _)).keep k2 (by simp [he.2.1]) (Nat.le_refl _)).keep k3 (by simp [he.2.2]) hbd
  refine ⟨k3 _ _ _ _ hbox2 (by decide), h.lo, ow hX'.oi (by decide), ow hX'.or (by decide), ow hX'.os (by decide), ow hX'.od (by decide), ?_, fun i hi => fl (hX'.fi i hi) (by decide), fun i hi => fl (hX'.fr i hi) (by decide), fun i hi => fl (hX'.fs i hi) (by decide), fun i hi => fl (hX'.fd i hi) (by decide), fun i hi => ?_⟩
  · rw [List.length_append]; exact own_keep (own_keep ho k2 (by decide)) k3 (by decide)
  · by_cases hlt : i < N.length
    · rw [List.getElem_append_left hlt]; exact (((hX'.fn i hlt).keep k1 (by decide) (Nat.le_refl _)).keep k2 (by decide) (Nat.le_refl _)).grown hg2 (fun g c e hc e' => (hs g e').1 i hlt g c e hc rfl) hbd
    · have : i = N.length := by simp at hi; omega
      subst this
      rw [List.getElem_append_right (Nat.le_refl _)]; simpa using hf

theorem fill2 {w : World} {g c k : Nat} {t : TypeId} {cur : Array Value} {u0 u1 : Value} {P : Nat → Value → Prop} (h : w.heap[g]? = some (.cells cur t (0, 0))) (hz : cur.size = c * 2) (hk : k < c) (hp : ∀ j q, j < k → q < 2 → ∃ u, cur[j * 2 + q]? = some u ∧ P q u) (p0 : P 0 u0) (p1 : P 1 u1) :
    ∃ cur', ((w.setCell ⟨g, k * 2, none⟩ u0).setCell ⟨g, k * 2 + 1, none⟩ u1).heap[g]? = some (.cells cur' t (0, 0)) ∧ cur'.size = c * 2 ∧ ∀ j q, j < k + 1 → q < 2 → ∃ u, cur'[j * 2 + q]? = some u ∧ P q u := by
  have k2 := heap_setCell_same _ g (k * 2 + 1) _ _ u1 (heap_setCell_same w g (k * 2) _ _ u0 h)
  refine ⟨_, k2, by simp [hz], fun j q hj hq => ?_⟩
  simp only [Array.getElem?_setIfInBounds, Array.size_setIfInBounds]
  by_cases hjk : j = k
  · subst hjk
    rcases (by omega : q = 0 ∨ q = 1) with rfl | rfl
    · rw [if_neg (by omega), if_pos (by omega), if_pos (by omega)]; exact ⟨u0, rfl, p0⟩
    · rw [if_pos rfl, if_pos (by omega)]; exact ⟨u1, rfl, p1⟩
  · rw [if_neg (by omega), if_neg (by omega)]; exact hp j q (by omega) hq

set_option maxRecDepth 100000 in
set_option maxHeartbeats 2000000 in
theorem tree_walk (bb bd hb B : Nat) (v : Value) (T : List NodeT) (vi vr vs vd vn : Value) (I R S D N : List Value) (w : World) (h : HoldIs w bb bd hb vi vr vs vd vn I R S D N) (hT : T.length ≤ 2000000) (hI : I.length ≤ 9200000000000) (hN : N.length ≤ 1000000000000) (hbd : bd ≤ B) (hBw : B ≤ w.heap.size) (hbb : bb ≤ B) (hsep : Sep vi R) (hvB : ∀ k, vi.ownBlock = some k → k < B) (hhB : hb < B)
    (hs : NodesD w B v T) :
    Calls Tryz.prog 71 #[.pointer (some ⟨hb, 0, none⟩), v] w fun e w' => ∃ vi' vn' L s1, e = .returned (.tuple #[]) ∧ HoldIs w' bb w'.heap.size hb vi' vr vs vd vn' (I ++ L) R S D (N ++ [s1]) ∧ L.length = T.length ∧ Sep vi' R ∧ (∀ q, q < B → q ≠ hb → vi.ownBlock ≠ some q → vn.ownBlock ≠ some q → w'.heap[q]? = w.heap[q]?) ∧ Below bb w w' := by
  obtain ⟨j0, hj, hy0, hy1, hy2⟩ := info_parts Tryz.infoNds
  obtain ⟨us, hu1, hu2, hu3, hu4⟩ := hs
  obtain ⟨ao, c, rfl, hle, hroom⟩ := room_of hu2
  have HRM := hid hroom
  have hcm := hroom.1
  unfold maxLen at hcm
  have HIB : Hid (∀ i (h : i < I.length), ∀ g c, I[i] = .slice (some ⟨g, 0, none⟩) c c → 0 < c → g < B) := fun i hi g c e hc => by have := (h.fi i hi).lt g c e hc; omega
  have HNB : Hid (∀ i (h : i < N.length), ∀ g c, N[i] = .slice (some ⟨g, 0, none⟩) c c → 0 < c → g < B) := fun i hi g c e hc => by have := (h.fn i hi).lt g c e hc; omega
  have HH := hid h
  have HL0 := hid (lst_begin (B := B) h (by omega) hsep)
  have HVB := hid hvB
  have HU1 := hid hu1
  have HU2 := hid hu2
  have HU3 := hid hu3
  have HU4 := hid hu4
  clear h hu1 hu2 hu3 hu4 hsep hvB hroom
  go_enter Tryz.func71, Tryz.ntmps71
  go_wp2_with fail
  go_loopw [4] (fun i wr => ∃ (k : Nat) (vi1 : Value) (L : List Value), i = .int .i64 k ∧ k ≤ T.length ∧ L.length = k ∧ Hid (LSt w wr B bb hb vi vi1 vr vs vd vn I L R S D N (us.take k))) (fun i _ => T.length - (intOf i).toNat)
  case atStart => exact ⟨0, vi, [], rfl, by omega, rfl, by rw [List.take_zero]; exact HL0⟩
  case round =>
    clear HL0
    obtain ⟨k, vi1, L, rfl, hk, hL, HST⟩ := hrel
    by_cases hlt : k < T.length
    · obtain ⟨g, cur, rfl, hBg, hg, hgz⟩ := HRM.out.2.1 (by omega)
      have hgl : g < w.heap.size := (Array.getElem?_eq_some_iff.1 hg).1
      have huk : us[k]? = some (us.getD k (.slice none 0 0)) := by
        have : k < us.length := by rw [HU1.out]; exact hlt
        rw [List.getD_eq_getElem?_getD, List.getElem?_eq_getElem this]; rfl
      obtain ⟨ak, ck, hak, _, _⟩ := own_val (HU3.out k hlt)
      have hgr : wr.heap[g]? = some (.cells cur 76 (0, 0)) := (HST.out.keep g hgl (by omega) (fun e => by have := HVB.out _ e; omega) (fun u hu e => by
        obtain ⟨i, hi1, hi2⟩ := List.getElem_of_mem hu
        have hi3 : i < k := by simp at hi1; omega
        have he : u = us.getD i (.slice none 0 0) := by
          rw [← hi2, List.getElem_take, List.getD_eq_getElem?_getD, List.getElem?_eq_getElem (by simp at hi1; omega)]; rfl
        rw [he] at e
        obtain ⟨_, _, cx, hcx⟩ := own_blk_lt (HU3.out i (by omega)) e
        rw [hg] at hcx; cases hcx)).trans hg
      have x0 : wr.cell? ⟨g, k * 2 + 1, none⟩ = some (.slice ak T[k].2.length ck) := by
        rw [cell_of_row _ _ _ _ _ _ hgr, ← cell_of_row _ _ _ _ _ _ hg, HU2.out.cellAt (k * 2 + 1) (by omega), (cellsN_at T us HU1.out k hlt).2, hak]
      have hglr : g < wr.heap.size := (Array.getElem?_eq_some_iff.1 hgr).1
      have hcon := hold_next (u := .slice ak T[k].2.length ck) (n := T[k].2.length) (zs := ints T[k].2) HST.out (by omega) hbb HVB.out hhB HIB.out (by rw [← hak]; exact HU3.out k hlt) (fun x hx q hq => by
        obtain ⟨i, hi1, hi2⟩ := List.getElem_of_mem hx
        have hi3 : i < k := by simp at hi1; omega
        have he : x = us.getD i (.slice none 0 0) := by
          rw [← hi2, List.getElem_take, List.getD_eq_getElem?_getD, List.getElem?_eq_getElem (by simp at hi1; omega)]; rfl
        rw [he] at hq
        rw [← hak]
        exact HU4.out i k hi3 hlt q hq)
      have HC := hid hcon
      have HUK : Hid (us.take (k + 1) = us.take k ++ [.slice ak T[k].2.length ck]) := by
        show _ = _
        rw [← hak, List.take_add_one, huk]; rfl
      obtain ⟨NK, hNK⟩ : ∃ NK, NK = T[k].2.length := ⟨_, rfl⟩
      rw [← hNK] at x0 HC HUK
      have ik : (0 : Int) ≤ (k : Int) := by omega
      have jk : (k : Int) < (T.length : Int) := by omega
      clear hcon hgr hg hak huk hNK
      go_wp2_with fail
      refine HC.out.mono ?_
      rintro e2 w2 ⟨vi2, s1, rfl, hst2⟩
      have HS2 : Hid (LSt w w2 B bb hb vi vi2 vr vs vd vn I (L ++ [s1]) R S D N (us.take (k + 1))) := by show LSt _ _ _ _ _ _ _ _ _ _ _ _ _ _ _ _ _ _; rw [HUK.out]; exact hst2
      clear hst2 HC HST HUK x0
      go_wp2
      go_roundw
      case rel => exact ⟨k + 1, vi2, L ++ [s1], by go_num, by omega, by simp [hL], HS2⟩
      case measure => simp [intOf]; omega
    · have hkn : k = T.length := by omega
      have HKN := hid hkn
      clear hkn
      have HI := hid HST.out.hold
      have hszr : w.heap.size ≤ wr.heap.size := HST.out.size
      obtain ⟨avr, cvr, hvr, _, _⟩ := own_val HI.out.on
      subst hvr
      have hbl : hb < wr.heap.size := (Array.getElem?_eq_some_iff.1 HI.out.box).1
      have c1 : wr.cell? ⟨hb, 4, none⟩ = some (.slice avr N.length cvr) := by rw [cell_of_row _ _ _ _ _ _ HI.out.box]; rfl
      have hfz : ∀ o, wr.frozen? ⟨hb, o, none⟩ = false := fun o => frozen_of_row wr hb o _ _ HI.out.box
      go_wp2_with (at_builtin; refine wpList_append_own _ rfl _ _ 53 rfl bb 56 j0 (.slice none 0 0) 1 24 Tryz.underlying53 hj hy0 hy1 hy2 rfl (by decide) _ _ _ rfl (HI.out.on.alloc _) ⟨wr.heap.size, 0, none⟩ 1 1 [.slice ao c c] rfl rfl ?c1 ?c2 ?c3 ?c4 ?c5 ?_)
      case c1 => exact news_at rfl rfl
      case c2 => intro u hu; simp at hu; subst hu; rfl
      case c3 => unfold maxLen; omega
      case c4 => omega
      case c5 => simp; omega
      intro v' w1 hown' hgrow _
      obtain ⟨g5, cap5, cur5, hv5, _, _, _⟩ := own_shape hown' (by omega)
      subst hv5
      obtain ⟨X, hX, hgr⟩ : ∃ X, Below wr.heap.size wr X ∧ X.grownBy w1 (Value.slice avr N.length cvr).ownBlock := ⟨_, below1 wr _, hgrow⟩
      clear hgrow
      have hk1 : Keep [56] X w1 := Keep.grown (own_below HI.out.on hX) (by simp) hgr
      have hk0 : Keep [56] wr w1 := (Keep.of_below hX).trans hk1
      have hbox1 := hk0 _ _ _ _ HI.out.box (by decide)
      have hbl1 : hb < w1.heap.size := (Array.getElem?_eq_some_iff.1 hbox1).1
      have c1' : w1.cell? ⟨hb, 4, none⟩ = some (.slice avr N.length cvr) := by rw [cell_of_row _ _ _ _ _ _ hbox1]; rfl
      have hfz1 : ∀ o, w1.frozen? ⟨hb, o, none⟩ = false := fun o => frozen_of_row w1 hb o _ _ hbox1
      obtain ⟨W2, hW2⟩ : ∃ W2, W2 = w1.setCell ⟨hb, 4, none⟩ (.slice (some ⟨g5, 0, none⟩) (N.length + 1) cap5) := ⟨_, rfl⟩
      have hk2 : Keep [55] w1 W2 := by rw [hW2]; exact Keep.setCell hbox1 (by simp) _
      have hbox2 : W2.heap[hb]? = some (.cells #[vi1, vr, vs, vd, .slice (some ⟨g5, 0, none⟩) (N.length + 1) cap5] 55 (0, 0)) := by rw [hW2]; exact heap_setCell_same w1 hb 4 _ _ _ hbox1
      have HRB : Hid (∀ q, (Value.slice ao c c).ownBlock = some q → B ≤ q ∧ q < w.heap.size ∧ q ≠ hb ∧ ∃ crr, W2.heap[q]? = some (.cells crr 76 (0, 0))) := fun q e => by
        obtain ⟨h1, crr, h2⟩ := room_block HRM.out q e
        have hql : q < w.heap.size := (Array.getElem?_eq_some_iff.1 h2).1
        have h3 := (HST.out.keep q hql (by omega) (fun e => by have := HVB.out _ e; omega) (fun u hu e => by
          obtain ⟨i, hi1, hi2⟩ := List.getElem_of_mem hu
          have hi3 : i < T.length := by simp at hi1; omega
          have he : u = us.getD i (.slice none 0 0) := by
            rw [← hi2, List.getElem_take, List.getD_eq_getElem?_getD, List.getElem?_eq_getElem (by simp at hi1; omega)]; rfl
          rw [he] at e
          obtain ⟨_, _, cx, hcx⟩ := own_blk_lt (HU3.out i hi3) e
          rw [h2] at hcx; cases hcx)).trans h2
        exact ⟨h1, hql, by omega, crr, hk2 _ _ _ _ (hk0 _ _ _ _ h3 (by decide)) (by decide)⟩
      have HRW : Hid (0 < c → ∃ g crr, ao = some ⟨g, 0, none⟩ ∧ W2.heap[g]? = some (.cells crr 76 (0, 0)) ∧ crr.size = c * 2) := fun hc => by
        obtain ⟨g, crr, k1, k2, k3, k4⟩ := HRM.out.2.1 hc
        have h3 := (HST.out.keep g (Array.getElem?_eq_some_iff.1 k3).1 (by omega) (fun e => by have := HVB.out _ e; omega) (fun u hu e => by
          obtain ⟨i, hi1, hi2⟩ := List.getElem_of_mem hu
          have hi3 : i < T.length := by simp at hi1; omega
          have he : u = us.getD i (.slice none 0 0) := by
            rw [← hi2, List.getElem_take, List.getD_eq_getElem?_getD, List.getElem?_eq_getElem (by simp at hi1; omega)]; rfl
          rw [he] at e
          obtain ⟨_, _, cx, hcx⟩ := own_blk_lt (HU3.out i hi3) e
          rw [k3] at hcx; cases hcx)).trans k3
        exact ⟨g, crr, k1, hk2 _ _ _ _ (hk0 _ _ _ _ h3 (by decide)) (by decide), k4⟩
      have HGR := hid hgr
      have HX := hid hX
      have HOW := hid hown'
      have HBX := hid hbox2
      have HW2 := hid hW2
      clear hgr hX hown' hbox2 hk2 hk0 hk1 hbox1
      go_wp2_with fail
      rw [← hW2]
      clear hW2
      go_loopw [6] (fun i wr => ∃ p : Nat, i = .int .i64 p ∧ p ≤ c ∧ Hid (W2.grownBy wr (Value.slice ao c c).ownBlock) ∧ Hid (0 < c → ∃ g crr, ao = some ⟨g, 0, none⟩ ∧ wr.heap[g]? = some (.cells crr 76 (0, 0)) ∧ crr.size = c * 2 ∧ ∀ j q, j < p → q < 2 → ∃ u, crr[j * 2 + q]? = some u ∧ isNode N.length q u)) (fun i _ => c - (intOf i).toNat)
      case atStart =>
        refine ⟨0, rfl, by omega, grown_refl _ _, fun hc => ?_⟩
        obtain ⟨g, crr, h1, h5, h6⟩ := HRW.out hc
        exact ⟨g, crr, h1, h5, h6, fun j q hj => absurd hj (by omega)⟩
      case round =>
        obtain ⟨p, rfl, hp, HG, HF⟩ := hrel
        have hbw2 : wr.heap[hb]? = _ := (HG.out.block hb (Array.getElem?_eq_some_iff.1 HBX.out).1 (fun e => (HRB.out _ e.symm).2.2.1 rfl)).trans HBX.out
        have hblr : hb < wr.heap.size := (Array.getElem?_eq_some_iff.1 hbw2).1
        have b1 : wr.cell? ⟨hb, 4, none⟩ = some (.slice (some ⟨g5, 0, none⟩) (N.length + 1) cap5) := by rw [cell_of_row _ _ _ _ _ _ hbw2]; rfl
        by_cases hlt2 : p < c
        · obtain ⟨g, crr, rfl, hg, hgz, hgp⟩ := HF.out (by omega)
          have hgb : g ≠ hb := (HRB.out g rfl).2.2.1
          have e1 : wr.cell? ⟨g, p * 2, none⟩ = some (crr.getD (p * 2) (.int .i64 0)) := by
            rw [cell_of_row _ _ _ _ _ _ hg, Array.getElem?_eq_getElem (by omega)]; simp [Array.getD, show p * 2 < crr.size by omega]
          have e2 : wr.cell? ⟨g, p * 2 + 1, none⟩ = some (crr.getD (p * 2 + 1) (.int .i64 0)) := by
            rw [cell_of_row _ _ _ _ _ _ hg, Array.getElem?_eq_getElem (by omega)]; simp [Array.getD, show p * 2 + 1 < crr.size by omega]
          have ef : ∀ o, wr.frozen? ⟨g, o, none⟩ = false := fun o => frozen_of_row wr g o _ _ hg
          have hgl : g < wr.heap.size := (Array.getElem?_eq_some_iff.1 hg).1
          have ip : (0 : Int) ≤ (p : Int) := by omega
          have jp : (p : Int) < (c : Int) := by omega
          have HGZ := hid hgz
          have HGP := hid hgp
          have HGG := hid hg
          clear hgp hgz hg hbw2
          go_wp2_with fail
          go_roundw
          case rel =>
            refine ⟨p + 1, by go_num, by omega, grown_set (grown_set HG.out _) _, fun _ => ?_⟩
            obtain ⟨crr', f1, f2, f3⟩ := fill2 (u0 := .int .i64 ((N.length : Int) + 1)) (u1 := .slice none 0 0) (P := isNode N.length) HGG.out HGZ.out hlt2 HGP.out (by simp [isNode]) (by simp [isNode])
            exact ⟨g, crr', rfl, f1, f2, f3⟩
          case measure => simp [intOf]; omega
        · have hpc : p = c := by omega
          have hF1 : Full wr wr.heap.size 76 2 (isNode N.length) (.slice ao c c) := ⟨ao, c, rfl, HRM.out.1, fun hc => by
            obtain ⟨g, crr, h1, h2, h3, h4⟩ := HF.out hc
            exact ⟨g, crr, h1, (Array.getElem?_eq_some_iff.1 h2).1, h2, fun j q hj hq => h4 j q (by omega) hq⟩⟩
          have h5 : w1.heap.size ≤ W2.heap.size := by rw [HW2.out]; exact ((Below.refl 0 w1).setCell (Nat.zero_le _) _).size
          have h6 := HX.out.size
          have h7 := HGR.out.size
          have h8 := HG.out.size
          have hHH := hold_node (bd' := wr.heap.size) HI.out HX.out HGR.out HOW.out (by rw [← HW2.out]; exact HG.out) (fun q e => by
            rw [← HW2.out]
            obtain ⟨k1, k2, k3, k4⟩ := HRB.out q e
            exact ⟨fun i hi g' c e' hc he => by have := HNB.out i hi g' c e' hc; omega, k4⟩) hF1 (by omega)
          have hKK : ∀ q, q < B → q ≠ hb → vi.ownBlock ≠ some q → (Value.slice avr N.length cvr).ownBlock ≠ some q → wr.heap[q]? = w.heap[q]? := fun q hq hqb h1 h2 => by
            rw [HG.out.block q (by omega) (fun e => by have := (HRB.out q e.symm).1; omega), HW2.out, Below.heap_setCell _ _ _ _ (by exact hqb), HGR.out.block q (by omega) (fun e => h2 e.symm), HX.out.block q (by omega)]
            refine HST.out.keep q (by omega) hqb h1 (fun u hu e => ?_)
            obtain ⟨i, hi1, hi2⟩ := List.getElem_of_mem hu
            have hi3 : i < T.length := by simp at hi1; omega
            have he : u = us.getD i (.slice none 0 0) := by
              rw [← hi2, List.getElem_take, List.getD_eq_getElem?_getD, List.getElem?_eq_getElem (by simp at hi1; omega)]; rfl
            rw [he] at e
            have := (own_blk_lt (HU3.out i hi3) e).1
            omega
          have hBB : Below bb w wr := by
            have h1 : Below bb w w1 := (HST.out.below.trans (HX.out.mono (by omega))).trans ((Below.refl _ _).grown HGR.out (by omega) (fun q hq => (HI.out.on.lt q hq).1))
            have h2 : Below bb w W2 := by rw [HW2.out]; exact h1.setCell (by have := HH.out.lo; show bb ≤ hb; omega) _
            exact h2.grown HG.out (by have := h2.size; omega) (fun q hq => by have := (HRB.out q hq).1; omega)
          have HH2 := hid hHH
          have HS2 := hid HST.out.sep
          have HB2 := hid hBB
          have HK2 := hid hKK
          have HLN : Hid (L.length = T.length) := by show _ = _; rw [hL]; exact HKN.out
          clear hHH hBB hKK hF1 HF HG HRW HRB HBX HX HGR HOW HW2 hbw2 b1 hpc
          go_wp2
          refine bodyPost_end (v := .tuple #[]) (by simp [results, Tryz.results71, go_sem]) rfl ?_
          exact ⟨_, _, L, _, rfl, HH2.out, HLN.out, HS2.out, HK2.out, HB2.out⟩
end Go.Proofs.YtebinaopncclgabGreatDoor
