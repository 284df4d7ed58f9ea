/- Walks: what is kept of a tree's nodes while they are gone through. -/
import Derived.Test.YtebinaopncclgabGreatDoorJArea
import Derived.Test.YtebinaopncclgabGreatDoorWaysZ
import Derived.Test.YtebinaopncclgabGreatDoorGBase
import Derived.Test.YtebinaopncclgabGreatDoorJShape
import Derived.Test.YtebinaopncclgabGreatDoorRefP
import Derived.Test.YtebinaopncclgabGreatDoorCForce
import Derived.Test.YtebinaopncclgabGreatDoorCArc
import Derived.Test.YtebinaopncclgabGreatDoorBetw
import Derived.Test.YtebinaopncclgabGreatDoorParse
import Derived.Test.YtebinaopncclgabGreatDoorPlainF
import Derived.Test.YtebinaopncclgabGreatDoorSPlain
import Derived.Test.YtebinaopncclgabGreatDoorTRead
namespace Go.Proofs.YtebinaopncclgabGreatDoor
open Go.RowKit Go.IntWalk

theorem GridO.keep {T : List TypeId} {w w' : World} {B : Nat} {v : Value} {n : Nat} {D : Nat → Nat → Int} (h : GridO w B v n D) (hk : Keep T w w') (h1 : 3 ∉ T) (h2 : 40 ∉ T) : GridO w' B v n D := by
  obtain ⟨g, G, e1, e2, e3, e4⟩ := h
  refine ⟨g, G, e1, own_keep e2 hk h2, fun i hi => ?_, e4⟩
  obtain ⟨k1, ci, k2, k3⟩ := e3 i hi
  exact ⟨k1, ci, hk _ _ _ _ k2 h1, k3⟩
theorem StR.own {w : World} {B : Nat} {v : Value} {r : Rd} (h : w.ownsRow B 62 5 v r.stops.length (ints r.stops.flatten)) (hs : ∀ s ∈ r.stops, s.length = 5) : StR w v r := by
  obtain ⟨ao, c, hv, h1, h2⟩ := own_val h
  refine ⟨ao, c, hv, fun i hi => ?_⟩
  cases ao with
  | none => exact absurd (h2 rfl) (by omega)
  | some a =>
    subst hv
    obtain ⟨g, rfl, _, hg⟩ := h1 a rfl
    refine ⟨g, rfl, hg, fun j z hj hz => ?_⟩
    have hij : i * 5 + j < r.stops.length * 5 := by omega
    rw [h.cellAt (i * 5 + j) hij]
    exact flat_ints hs hi hj hz
end Go.Proofs.YtebinaopncclgabGreatDoor
namespace Go.Proofs.YtebinaopncclgabGreatDoor
open Go.RowKit Go.IntWalk

def aboveC (P : PathT) : List Value := (P.reverse.map fun q => [Value.int .i64 q.1.1, Value.int .i64 q.1.2]).flatten
structure WalkAt (w0 w : World) (p : Nat) (r : Rd) (cl : Option Int) (P : PathT) (vs vf vf2 : Value) : Prop where
  size : w0.heap.size = p
  below : Below p w0 w
  c0 : w.cell? ⟨p, 0, none⟩ = some (.int .i64 r.vans)
  c1 : w.cell? ⟨p, 1, none⟩ = some (.int .i64 r.load)
  c2 : w.cell? ⟨p, 2, none⟩ = some (.int .i64 r.close)
  c5 : w.cell? ⟨p, 5, none⟩ = some vs
  c7 : w.cell? ⟨p, 7, none⟩ = some vf
  arcs : ArcsAt w p 8 r (tabP P) vf2
  above : ∃ va, w.cell? ⟨p, 74, none⟩ = some va ∧ w.ownsRow (p + 1) 218 2 va P.length (aboveC P)
  c75 : w.cell? ⟨p, 75, none⟩ = some (.bool cl.isSome)
  c76 : w.cell? ⟨p, 76, none⟩ = some (.int .i64 (cl.getD 0))
theorem own_other {w w' : World} {v : Value} {B n size : Nat} {e : TypeId} {xs : List Value} (h : w.ownsRow B e size v n xs) (hb : ∀ q, v.ownBlock = some q → w'.heap[q]? = w.heap[q]?) : w'.ownsRow B e size v n xs := by
  obtain ⟨h1, h2⟩ := h
  refine ⟨h1, ?_⟩
  rcases h2 with h2 | ⟨g, cap, cur, rfl, h3, h4, h5⟩
  · exact .inl h2
  · exact .inr ⟨g, cap, cur, rfl, h3, (hb g rfl).trans h4, h5⟩
/- all but the walk's box and the list of the branches above is as it was -/
def KeptP (w w' : World) (p : Nat) : Prop := w.heap.size ≤ w'.heap.size ∧ ∀ va, w.cell? ⟨p, 74, none⟩ = some va → ∀ k, k < w.heap.size → k ≠ p → va.ownBlock ≠ some k → w'.heap[k]? = w.heap[k]?
end Go.Proofs.YtebinaopncclgabGreatDoor
namespace Go.Proofs.YtebinaopncclgabGreatDoor
open Go.RowKit Go.IntWalk

/- all but the walk's box is as it was -/
def KeptB (w w' : World) (p : Nat) : Prop := w.heap.size ≤ w'.heap.size ∧ ∀ k, k < w.heap.size → k ≠ p → w'.heap[k]? = w.heap[k]?
theorem KeptB.trans {a b c : World} {p : Nat} (h : KeptB a b p) (k : KeptB b c p) : KeptB a c p := ⟨Nat.le_trans h.1 k.1, fun i h1 h2 => (k.2 i (Nat.lt_of_lt_of_le h1 h.1) h2).trans (h.2 i h1 h2)⟩
theorem KeptB.of_below {a b : World} {p : Nat} (h : Below a.heap.size a b) : KeptB a b p := ⟨h.size, fun i h1 _ => h.block i h1⟩

end Go.Proofs.YtebinaopncclgabGreatDoor
namespace Go.Proofs.YtebinaopncclgabGreatDoor
open Go.RowKit Go.IntWalk

theorem WalkAt.area {w0 w : World} {p : Nat} {r : Rd} {cl : Option Int} {P : PathT} {vs vf vf2 : Value} (h : WalkAt w0 w p r cl P vs vf vf2) (hs : StR w0 vs r) (hq : SqR w0 vf (r.stops.length + 1) (siteD r)) : AreaAt w p r (siteD r) vs vf := by
  have hb : Below w0.heap.size w0 w := by rw [h.size]; exact h.below
  exact ⟨h.arcs.lt, h.c0, h.c1, h.c2, h.c5, h.c7, hs.below hb, hq.below hb⟩
theorem KeptP.of_below {a b : World} {p : Nat} (h : Below a.heap.size a b) : KeptP a b p := ⟨h.size, fun _ _ k h1 _ _ => h.block k h1⟩
end Go.Proofs.YtebinaopncclgabGreatDoor
namespace Go.Proofs.YtebinaopncclgabGreatDoor

theorem tree_nodes : ∀ (l : List NodeT) (o : Nat), treeT o l = true → ∀ nd ∈ l, nodeOkT nd = true := by
  intro l
  induction l with
  | nil => intro o _ nd hm; cases hm
  | cons x l ih =>
    intro o h nd hm
    simp only [treeT, Bool.and_eq_true] at h
    rcases List.mem_cons.1 hm with rfl | hm
    · exact h.1.2
    · exact ih _ h.2 nd hm
theorem node_facts {l : List NodeT} {o : Nat} (h : treeT o l = true) {nd : NodeT} (hm : nd ∈ l) : nd.2.length ≤ 20 ∧ (∀ z ∈ nd.2, -100000000 ≤ z ∧ z ≤ 100000000) ∧ (nd.1 = 1 → nd.2.length = 2) := by
  obtain ⟨h1, h2⟩ := nodeOk_parts (tree_nodes l o h nd hm)
  have h3 := cntT_kind h1
  exact ⟨by omega, h2, fun h => by omega⟩

end Go.Proofs.YtebinaopncclgabGreatDoor
namespace Go.Proofs.YtebinaopncclgabGreatDoor
open Go.RowKit Go.IntWalk

theorem own_kept {w w' : World} {p B n size B2 n2 : Nat} {e : TypeId} {v va : Value} {xs xs2 : List Value} (h : w.ownsRow B e size v n xs) (hB : p < B) (h74 : w.cell? ⟨p, 74, none⟩ = some va) (ha : w.ownsRow B2 218 2 va n2 xs2) (he : e ≠ 218) (hk : KeptP w w' p) : w'.ownsRow B e size v n xs :=
  own_other h (fun q hq => hk.2 va h74 q (h.lt q hq).2 (by have := (h.lt q hq).1; omega) (fun h2 => by
    rcases own_ne h ha he with h3 | h3
    · rw [h3] at hq; cases hq
    · exact h3 (hq.trans h2.symm)))
theorem NodesR.kept {w0 w w' : World} {p B : Nat} {v vs vf vf2 : Value} {L : List NodeT} {r : Rd} {cl : Option Int} {P : PathT} (h : NodesR w B v L) (hB : p < B) (hw : WalkAt w0 w p r cl P vs vf vf2) (hk : KeptP w w' p) : NodesR w' B v L := by
  obtain ⟨us, h1, h2, h3⟩ := h
  obtain ⟨va, g1, g2⟩ := hw.above
  exact ⟨us, h1, own_kept h2 hB g1 g2 (by decide) hk, fun i hi => own_kept (h3 i hi) hB g1 g2 (by decide) hk⟩
theorem cellsN_at : ∀ (L : List NodeT) (vs : List Value), vs.length = L.length → ∀ i (h : i < L.length), (cellsN L vs)[i * 2]? = some (.int .i64 L[i].1) ∧ (cellsN L vs)[i * 2 + 1]? = some (vs.getD i (.slice none 0 0))
  | [], _, _, i, h => absurd h (by simp)
  | nd :: L, [], hl, _, _ => absurd hl (by simp)
  | nd :: L, v :: vs, hl, i, h => by
    have e : cellsN (nd :: L) (v :: vs) = .int .i64 nd.1 :: v :: cellsN L vs := by simp [cellsN]
    rw [e]
    cases i with
    | zero => exact ⟨rfl, rfl⟩
    | succ i =>
      have := cellsN_at L vs (by simpa using hl) i (by simpa using h)
      have e1 : (i + 1) * 2 = i * 2 + 1 + 1 := by omega
      rw [e1, List.getElem?_cons_succ, List.getElem?_cons_succ, List.getElem?_cons_succ, List.getElem?_cons_succ]
      exact this
theorem NodesR.at {w : World} {B : Nat} {v : Value} {L : List NodeT} (h : NodesR w B v L) {i : Nat} (hi : i < L.length) : ∃ g c ao c', v = .slice (some ⟨g, 0, none⟩) L.length c ∧ B ≤ g ∧ g < w.heap.size ∧ w.cell? ⟨g, i * 2, none⟩ = some (.int .i64 L[i].1) ∧ w.cell? ⟨g, i * 2 + 1, none⟩ = some (.slice ao L[i].2.length c') ∧ ListR w (.slice ao L[i].2.length c') L[i].2 := by
  obtain ⟨us, h1, h2, h3⟩ := h
  obtain ⟨g, cap, cur, rfl, hb, hg, _⟩ := own_shape h2 (by omega)
  obtain ⟨k1, k2⟩ := cellsN_at L us h1 i hi
  obtain ⟨ao, c', hv, _, _⟩ := own_val (h3 i hi)
  have h4 := h3 i hi
  rw [hv] at h4 k2
  exact ⟨g, cap, ao, c', rfl, hb, (Array.getElem?_eq_some_iff.1 hg).1, by rw [h2.cellAt (i * 2) (by omega)]; exact k1, by rw [h2.cellAt (i * 2 + 1) (by omega)]; exact k2, ListR.own h4⟩

theorem splitR_len (c : UInt8) : ∀ l : List UInt8, (splitR c l).length ≤ l.length + 1
  | [] => by simp [splitR]
  | x :: t => by
    have := splitR_len c t
    rw [splitR_cons]
    split
    · simp; omega
    · cases hq : splitR c t with
      | nil => simp
      | cons p ps => rw [hq] at this; simp at *; omega
theorem readT_len (l : List UInt8) : (readT l).1.length ≤ l.length + 1 := by
  have h1 := goT_count (splitR 10 l) 1 []
  have h2 := splitR_len 10 l
  unfold readT
  simp at h1; omega
end Go.Proofs.YtebinaopncclgabGreatDoor
