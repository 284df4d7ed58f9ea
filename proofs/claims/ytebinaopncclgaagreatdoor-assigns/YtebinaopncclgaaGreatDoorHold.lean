/- Walks of the statements: lists that came out are held. -/
import Derived.Test.YtebinaopncclgaaGreatDoorSameI
namespace Go.Proofs.YtebinaopncclgaaGreatDoor
open Go.RowKit Go.IntWalk

theorem Tryz.infoSS : (Tryz.prog.info? 33).map (fun i => (i.zero, i.size, i.bytes)) = some (some (.slice none 0 0), 1, 24) := by kernel_rfl
theorem Tryz.infoSR : (Tryz.prog.info? 34).map (fun i => (i.zero, i.size, i.bytes)) = some (some (.slice none 0 0), 1, 24) := by kernel_rfl

/- a list whose cells, all of them, are as they were written; its block is below bd -/
def Full (w : World) (bd : Nat) (t : TypeId) (size : Nat) (P : Nat → Value → Prop) (v : Value) : Prop :=
  ∃ ao c, v = .slice ao c c ∧ c ≤ maxLen ∧ (0 < c → ∃ g cur, ao = some ⟨g, 0, none⟩ ∧ g < bd ∧ w.heap[g]? = some (.cells cur t (0, 0)) ∧ ∀ j q, j < c → q < size → ∃ u, cur[j * size + q]? = some u ∧ P q u)
theorem Full.keep {w w' : World} {bd bd' : Nat} {t : TypeId} {size : Nat} {P : Nat → Value → Prop} {v : Value} {T : List TypeId} (h : Full w bd t size P v) (hk : Keep T w w') (ht : t ∉ T) (hb : bd ≤ bd') : Full w' bd' t size P v := by
  obtain ⟨ao, c, h1, h2, h3⟩ := h
  refine ⟨ao, c, h1, h2, fun hc => ?_⟩
  obtain ⟨g, cur, k1, k2, k3, k4⟩ := h3 hc
  exact ⟨g, cur, k1, by omega, hk g cur t _ k3 ht, k4⟩
theorem Full.lt {w : World} {bd : Nat} {t : TypeId} {size : Nat} {P : Nat → Value → Prop} {v : Value} (h : Full w bd t size P v) : ∀ g c, v = .slice (some ⟨g, 0, none⟩) c c → 0 < c → g < bd := by
  obtain ⟨ao, c, h1, h2, h3⟩ := h
  intro g c' e hc
  rw [h1] at e; cases e
  obtain ⟨g', cur, k1, k2, _⟩ := h3 hc
  cases k1; exact k2
theorem Full.grown {w w' : World} {bd bd' : Nat} {t : TypeId} {size : Nat} {P : Nat → Value → Prop} {v : Value} {row : Option Nat} (h : Full w bd t size P v) (hg : w.grownBy w' row) (hr : ∀ g c, v = .slice (some ⟨g, 0, none⟩) c c → 0 < c → row ≠ some g) (hb : bd ≤ bd') : Full w' bd' t size P v := by
  obtain ⟨ao, c, h1, h2, h3⟩ := h
  refine ⟨ao, c, h1, h2, fun hc => ?_⟩
  obtain ⟨g, cur, k1, k2, k3, k4⟩ := h3 hc
  exact ⟨g, cur, k1, by omega, by rw [hg.block g (Array.getElem?_eq_some_iff.1 k3).1 (fun e => hr g c (by rw [h1, k1]) hc e.symm)]; exact k3, k4⟩

/- what is written into each kind of list -/
def isInt (i : Nat) (_ : Nat) (u : Value) : Prop := u = .int .i64 ((i + 1 : Nat) : Int)
def isRow (i : Nat) (_ : Nat) (u : Value) : Prop := ∃ a c, u = .slice a (i + 1) c
def isNum (i : Nat) (q : Nat) (u : Value) : Prop := u = .int .i64 (if q = 0 then ((i + 1 : Nat) : Int) else 0)
def isNode (i : Nat) (q : Nat) (u : Value) : Prop := u = if q = 0 then .int .i64 ((i + 1 : Nat) : Int) else .slice none 0 0

structure HoldIs (w : World) (bb bd hb : Nat) (vi vr vs vd vn : Value) (I R S D N : List Value) : Prop where
  box : w.heap[hb]? = some (.cells #[vi, vr, vs, vd, vn] 32 (0, 0))
  lo : bb ≤ hb
  oi : w.ownsRow bb 53 1 vi I.length I
  or : w.ownsRow bb 26 1 vr R.length R
  os : w.ownsRow bb 33 1 vs S.length S
  od : w.ownsRow bb 34 1 vd D.length D
  on : w.ownsRow bb 37 1 vn N.length N
  fi : ∀ i (h : i < I.length), Full w bd 3 1 (isInt i) I[i]
  fr : ∀ i (h : i < R.length), Full w bd 53 1 (isRow i) R[i]
  fs : ∀ i (h : i < S.length), Full w bd 50 5 (isNum i) S[i]
  fd : ∀ i (h : i < D.length), Full w bd 52 3 (isNum i) D[i]
  fn : ∀ i (h : i < N.length), Full w bd 55 2 (isNode i) N[i]

theorem HoldIs.below {w w' : World} {bb bd hb : Nat} {vi vr vs vd vn : Value} {I R S D N : List Value} (h : HoldIs w bb bd hb vi vr vs vd vn I R S D N) (hb' : Below w.heap.size w w') {bd' : Nat} (h2 : bd ≤ bd') : HoldIs w' bb bd' hb vi vr vs vd vn I R S D N :=
  have hk : Keep [] w w' := Keep.of_below hb'
  ⟨by rw [hb'.block _ (Array.getElem?_eq_some_iff.1 h.box).1]; exact h.box, h.lo, own_below h.oi hb', own_below h.or hb', own_below h.os hb', own_below h.od hb', own_below h.on hb', fun i hi => (h.fi i hi).keep hk (by simp) h2, fun i hi => (h.fr i hi).keep hk (by simp) h2, fun i hi => (h.fs i hi).keep hk (by simp) h2, fun i hi => (h.fd i hi).keep hk (by simp) h2, fun i hi => (h.fn i hi).keep hk (by simp) h2⟩

/- a list that came out: its whole room -/
def Room (w : World) (B : Nat) (t : TypeId) (size : Nat) (ao : Option Addr) (c : Nat) : Prop :=
  c ≤ maxLen ∧ (0 < c → ∃ g cur, ao = some ⟨g, 0, none⟩ ∧ B ≤ g ∧ w.heap[g]? = some (.cells cur t (0, 0)) ∧ cur.size = c * size) ∧ (ao = none → c = 0) ∧ ∀ a, ao = some a → ∃ g cur, a = ⟨g, 0, none⟩ ∧ B ≤ g ∧ w.heap[g]? = some (.cells cur t (0, 0))
theorem room_of {w : World} {B n size : Nat} {e : TypeId} {v : Value} {xs : List Value} (h : w.ownsRow B e size v n xs) : ∃ ao c, v = .slice ao n c ∧ n ≤ c ∧ Room w B e size ao c := by
  rcases h.2 with ⟨rfl, rfl⟩ | ⟨g, cap, cur, rfl, hb, hg, hc, hm, hz, _⟩
  · exact ⟨none, 0, rfl, Nat.le_refl _, Nat.zero_le _, fun h => absurd h (by omega), fun _ => rfl, fun a h => by cases h⟩
  · exact ⟨some ⟨g, 0, none⟩, cap, rfl, hc, hm, fun _ => ⟨g, cur, rfl, hb, hg, hz⟩, fun h => (by cases h), fun a h => (by cases h; exact ⟨g, cur, rfl, hb, hg⟩)⟩

theorem room_block {w : World} {B n c size : Nat} {e : TypeId} {ao : Option Addr} (h : Room w B e size ao c) : ∀ k, (Value.slice ao n c).ownBlock = some k → B ≤ k ∧ ∃ cur, w.heap[k]? = some (.cells cur e (0, 0)) := by
  intro k hk
  cases ao with
  | none => cases hk
  | some a =>
    obtain ⟨g, cur, rfl, hb, hg⟩ := h.2.2.2 a rfl
    cases hk
    exact ⟨hb, cur, hg⟩
theorem grow_keep {w w' : World} {row : Option Nat} {t : TypeId} (hg : w.grownBy w' row) (ht : ∀ k, row = some k → ∃ cur, w.heap[k]? = some (.cells cur t (0, 0))) : Keep [t] w w' := by
  intro k cur t' z hk hne
  rw [hg.block k (Array.getElem?_eq_some_iff.1 hk).1 ?_]
  · exact hk
  · intro e
    obtain ⟨cur', h'⟩ := ht k e.symm
    rw [hk] at h'; cases h'; simp at hne

/- the list is held: what was appended, stored and written -/
theorem hold_stop {w X w1 wr : World} {bb bd bd' hb : Nat} {vi vr vs vd vn v' s : Value} {I R S D N : List Value} (h : HoldIs w bb bd hb vi vr vs vd vn I R S D N) (hX : Below w.heap.size w X) (hg1 : X.grownBy w1 vs.ownBlock) (ho : w1.ownsRow bb 33 1 v' (S.length + 1) (S ++ [s]))
    (hg2 : (w1.setCell ⟨hb, 2, none⟩ v').grownBy wr s.ownBlock) (hs : ∀ k, s.ownBlock = some k → (∀ i (h : i < S.length), ∀ g c, S[i] = .slice (some ⟨g, 0, none⟩) c c → 0 < c → g ≠ k) ∧ ∃ cur, (w1.setCell ⟨hb, 2, none⟩ v').heap[k]? = some (.cells cur 50 (0, 0))) (hf : Full wr bd' 50 5 (isNum S.length) s) (hbd : bd ≤ bd') :
    HoldIs wr bb bd' hb vi vr v' vd vn I R (S ++ [s]) D N := by
  have hX' := h.below hX (Nat.le_refl bd)
  have k1 : Keep [33] X w1 := Keep.grown hX'.os (by simp) hg1
  have hbox : w1.heap[hb]? = some (.cells #[vi, vr, vs, vd, vn] 32 (0, 0)) := k1 _ _ _ _ hX'.box (by decide)
  have k2 : Keep [32] w1 (w1.setCell ⟨hb, 2, none⟩ v') := Keep.setCell hbox (by simp) v'
  have k3 : Keep [50] (w1.setCell ⟨hb, 2, none⟩ v') wr := grow_keep hg2 (fun k e => (hs k e).2)
  have hbox2 : (w1.setCell ⟨hb, 2, none⟩ v').heap[hb]? = some (.cells #[vi, vr, v', vd, vn] 32 (0, 0)) := heap_setCell_same w1 hb 2 _ _ v' hbox
  have ow : ∀ {e : TypeId} {size n : Nat} {v : Value} {xs : List Value}, X.ownsRow bb e size v n xs → e ∉ [33, 32, 50] → wr.ownsRow bb e size v n xs := by
    intro e size n v xs hv he
    simp only [List.mem_cons, List.not_mem_nil, or_false, not_or] at he
    exact own_keep (own_keep (own_keep hv k1 (by simp [he.1])) k2 (by simp [he.2.1])) k3 (by simp [he.2.2])
  have fl : ∀ {e : TypeId} {size : Nat} {P : Nat → Value → Prop} {v : Value}, Full X bd e size P v → e ∉ [33, 32, 50] → Full wr bd' e size P v := by
    intro e size P v hv he
    simp only [List.mem_cons, List.not_mem_nil, or_false, not_or] at he
    exact ((hv.keep k1 (by simp [he.1]) (Nat.le_refl _)).keep k2 (by simp [he.2.1]) (Nat.le_refl _)).keep k3 (by simp [he.2.2]) hbd
  refine ⟨k3 _ _ _ _ hbox2 (by decide), h.lo, ow hX'.oi (by decide), ow hX'.or (by decide), ?_, ow hX'.od (by decide), ow hX'.on (by decide), fun i hi => fl (hX'.fi i hi) (by decide), fun i hi => fl (hX'.fr i hi) (by decide), fun i hi => ?_, fun i hi => fl (hX'.fd i hi) (by decide), fun i hi => fl (hX'.fn i hi) (by decide)⟩
  · rw [List.length_append]; exact own_keep (own_keep ho k2 (by decide)) k3 (by decide)
  · by_cases hlt : i < S.length
    · rw [List.getElem_append_left hlt]; exact (((hX'.fs i hlt).keep k1 (by decide) (Nat.le_refl _)).keep k2 (by decide) (Nat.le_refl _)).grown hg2 (fun g c e hc e' => (hs g e').1 i hlt g c e hc rfl) hbd
    · have : i = S.length := by simp at hi; omega
      subst this
      rw [List.getElem_append_right (Nat.le_refl _)]; simpa using hf
theorem hold_road {w X w1 wr : World} {bb bd bd' hb : Nat} {vi vr vs vd vn v' s : Value} {I R S D N : List Value} (h : HoldIs w bb bd hb vi vr vs vd vn I R S D N) (hX : Below w.heap.size w X) (hg1 : X.grownBy w1 vd.ownBlock) (ho : w1.ownsRow bb 34 1 v' (D.length + 1) (D ++ [s]))
    (hg2 : (w1.setCell ⟨hb, 3, none⟩ v').grownBy wr s.ownBlock) (hs : ∀ k, s.ownBlock = some k → (∀ i (h : i < D.length), ∀ g c, D[i] = .slice (some ⟨g, 0, none⟩) c c → 0 < c → g ≠ k) ∧ ∃ cur, (w1.setCell ⟨hb, 3, none⟩ v').heap[k]? = some (.cells cur 52 (0, 0))) (hf : Full wr bd' 52 3 (isNum D.length) s) (hbd : bd ≤ bd') :
    HoldIs wr bb bd' hb vi vr vs v' vn I R S (D ++ [s]) N := by
  have hX' := h.below hX (Nat.le_refl bd)
  have k1 : Keep [34] X w1 := Keep.grown hX'.od (by simp) hg1
  have hbox : w1.heap[hb]? = some (.cells #[vi, vr, vs, vd, vn] 32 (0, 0)) := k1 _ _ _ _ hX'.box (by decide)
  have k2 : Keep [32] w1 (w1.setCell ⟨hb, 3, none⟩ v') := Keep.setCell hbox (by simp) v'
  have k3 : Keep [52] (w1.setCell ⟨hb, 3, none⟩ v') wr := grow_keep hg2 (fun k e => (hs k e).2)
  have hbox2 : (w1.setCell ⟨hb, 3, none⟩ v').heap[hb]? = some (.cells #[vi, vr, vs, v', vn] 32 (0, 0)) := heap_setCell_same w1 hb 3 _ _ v' hbox
  have ow : ∀ {e : TypeId} {size n : Nat} {v : Value} {xs : List Value}, X.ownsRow bb e size v n xs → e ∉ [34, 32, 52] → wr.ownsRow bb e size v n xs := by
    intro e size n v xs hv he
    simp only [List.mem_cons, List.not_mem_nil, or_false, not_or] at he
    exact own_keep (own_keep (own_keep hv k1 (by simp [he.1])) k2 (by simp [he.2.1])) k3 (by simp [he.2.2])
  have fl : ∀ {e : TypeId} {size : Nat} {P : Nat → Value → Prop} {v : Value}, Full X bd e size P v → e ∉ [34, 32, 52] → Full wr bd' e size P v := by
    intro e size P v hv he
    simp only [List.mem_cons, List.not_mem_nil, or_false, not_or] at he
    exact ((hv.keep k1 (by simp [he.1]) (Nat.le_refl _)).keep k2 (by simp [he.2.1]) (Nat.le_refl _)).keep k3 (by simp [he.2.2]) hbd
  refine ⟨k3 _ _ _ _ hbox2 (by decide), h.lo, ow hX'.oi (by decide), ow hX'.or (by decide), ow hX'.os (by decide), ?_, ow hX'.on (by decide), fun i hi => fl (hX'.fi i hi) (by decide), fun i hi => fl (hX'.fr i hi) (by decide), fun i hi => fl (hX'.fs i hi) (by decide), fun i hi => ?_, fun i hi => fl (hX'.fn i hi) (by decide)⟩
  · rw [List.length_append]; exact own_keep (own_keep ho k2 (by decide)) k3 (by decide)
  · by_cases hlt : i < D.length
    · rw [List.getElem_append_left hlt]; exact (((hX'.fd i hlt).keep k1 (by decide) (Nat.le_refl _)).keep k2 (by decide) (Nat.le_refl _)).grown hg2 (fun g c e hc e' => (hs g e').1 i hlt g c e hc rfl) hbd
    · have : i = D.length := by simp at hi; omega
      subst this
      rw [List.getElem_append_right (Nat.le_refl _)]; simpa using hf

/- cells are written -/
theorem grown_set {w0 w : World} {g o : Nat} (h : w0.grownBy w (some g)) (u : Value) : w0.grownBy (w.setCell ⟨g, o, none⟩ u) (some g) := by
  have hb := (Below.refl 0 w).setCell (p := ⟨g, o, none⟩) (Nat.zero_le _) u
  refine ⟨hb.os.trans h.os, hb.tape.trans h.tape, hb.output.trans h.output, Nat.le_trans h.size hb.size, fun k hk hne => ?_⟩
  rw [Below.heap_setCell _ _ _ _ (fun e => hne (by rw [e]))]; exact h.block k hk hne
theorem grown_drew {w0 w : World} {row : Option Nat} (h : w0.grownBy w row) : w0.grownBy w.drew row := by
  have hb := (Below.refl 0 w).drew
  exact ⟨hb.os.trans h.os, hb.tape.trans h.tape, hb.output.trans h.output, Nat.le_trans h.size hb.size, fun k hk hne => h.block k hk hne⟩
theorem grown_refl (w : World) (row : Option Nat) : w.grownBy w row := ⟨rfl, rfl, rfl, Nat.le_refl _, fun _ _ _ => rfl⟩
theorem fill5 {w : World} {g c k : Nat} {t : TypeId} {cur : Array Value} {u0 u1 u2 u3 u4 : Value} {P : Nat → Value → Prop} (h : w.heap[g]? = some (.cells cur t (0, 0))) (hz : cur.size = c * 5) (hk : k < c) (hp : ∀ j q, j < k → q < 5 → ∃ u, cur[j * 5 + q]? = some u ∧ P q u) (p0 : P 0 u0) (p1 : P 1 u1) (p2 : P 2 u2) (p3 : P 3 u3) (p4 : P 4 u4) :
    ∃ cur', (((((w.setCell ⟨g, k * 5, none⟩ u0).setCell ⟨g, k * 5 + 1, none⟩ u1).setCell ⟨g, k * 5 + 2, none⟩ u2).setCell ⟨g, k * 5 + 3, none⟩ u3).setCell ⟨g, k * 5 + 4, none⟩ u4).heap[g]? = some (.cells cur' t (0, 0)) ∧ cur'.size = c * 5 ∧ ∀ j q, j < k + 1 → q < 5 → ∃ u, cur'[j * 5 + q]? = some u ∧ P q u := by
  have k1 := heap_setCell_same w g (k * 5) _ _ u0 h
  have k2 := heap_setCell_same _ g (k * 5 + 1) _ _ u1 k1
  have k3 := heap_setCell_same _ g (k * 5 + 2) _ _ u2 k2
  have k4 := heap_setCell_same _ g (k * 5 + 3) _ _ u3 k3
  have k5 := heap_setCell_same _ g (k * 5 + 4) _ _ u4 k4
  refine ⟨_, k5, by simp [hz], fun j q hj hq => ?_⟩
  simp only [Array.getElem?_setIfInBounds, Array.size_setIfInBounds]
  by_cases hjk : j = k
  · subst hjk
    match q, hq with
    | 0, _ => exact ⟨u0, by simp [hz]; omega, p0⟩
    | 1, _ => exact ⟨u1, by simp [hz]; omega, p1⟩
    | 2, _ => exact ⟨u2, by simp [hz]; omega, p2⟩
    | 3, _ => exact ⟨u3, by simp [hz]; omega, p3⟩
    | 4, _ => exact ⟨u4, by simp [hz]; omega, p4⟩
  · rw [if_neg (by omega), if_neg (by omega), if_neg (by omega), if_neg (by omega), if_neg (by omega)]
    exact hp j q (by omega) hq
theorem fill3 {w : World} {g c k : Nat} {t : TypeId} {cur : Array Value} {u0 u1 u2 : Value} {P : Nat → Value → Prop} (h : w.heap[g]? = some (.cells cur t (0, 0))) (hz : cur.size = c * 3) (hk : k < c) (hp : ∀ j q, j < k → q < 3 → ∃ u, cur[j * 3 + q]? = some u ∧ P q u) (p0 : P 0 u0) (p1 : P 1 u1) (p2 : P 2 u2) :
    ∃ cur', (((w.setCell ⟨g, k * 3, none⟩ u0).setCell ⟨g, k * 3 + 1, none⟩ u1).setCell ⟨g, k * 3 + 2, none⟩ u2).heap[g]? = some (.cells cur' t (0, 0)) ∧ cur'.size = c * 3 ∧ ∀ j q, j < k + 1 → q < 3 → ∃ u, cur'[j * 3 + q]? = some u ∧ P q u := by
  have k1 := heap_setCell_same w g (k * 3) _ _ u0 h
  have k2 := heap_setCell_same _ g (k * 3 + 1) _ _ u1 k1
  have k3 := heap_setCell_same _ g (k * 3 + 2) _ _ u2 k2
  refine ⟨_, k3, by simp [hz], fun j q hj hq => ?_⟩
  simp only [Array.getElem?_setIfInBounds, Array.size_setIfInBounds]
  by_cases hjk : j = k
  · subst hjk
    match q, hq with
    | 0, _ => exact ⟨u0, by simp [hz]; omega, p0⟩
    | 1, _ => exact ⟨u1, by simp [hz]; omega, p1⟩
    | 2, _ => exact ⟨u2, by simp [hz]; omega, p2⟩
  · rw [if_neg (by omega), if_neg (by omega), if_neg (by omega)]
    exact hp j q (by omega) hq
end Go.Proofs.YtebinaopncclgaaGreatDoor
