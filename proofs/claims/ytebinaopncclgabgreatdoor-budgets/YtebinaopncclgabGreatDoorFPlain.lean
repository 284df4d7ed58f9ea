/- Plain mathematics: the first node of a tree that does not hold, node by node and tree by tree. No program in sight. -/
import Derived.Test.YtebinaopncclgabGreatDoorSMatch
namespace Go.Proofs.YtebinaopncclgabGreatDoor

theorem path_step {I : Ins} {cl : Option Int} {P P' : PathT} {nd : NodeT} (h : PathOk I.n P) (hs : stepW I cl P nd = some P') : PathOk I.n P' := by
  unfold stepW at hs
  split at hs
  · split at hs
    · rename_i hc
      cases hs
      obtain ⟨⟨h1, h2, h3, h4, h5⟩, h6⟩ := hc
      exact .cons (by omega) (by omega) (by omega) h6 h
    · cases hs
  · split at hs
    · cases hs; exact path_leave h
    · cases hs
/- the first node that does not hold, counted from one; 0 where all do -/
noncomputable def firstW (I : Ins) (cl : Option Int) : PathT → List NodeT → Nat → Nat
  | _, [], _ => 0
  | P, nd :: l, i => match stepW I cl P nd with
    | none => i + 1
    | some P' => firstW I cl P' l (i + 1)
theorem firstW_cons (I : Ins) (cl : Option Int) (P : PathT) (nd : NodeT) (l : List NodeT) (i : Nat) : firstW I cl P (nd :: l) i = match stepW I cl P nd with | none => i + 1 | some P' => firstW I cl P' l (i + 1) := rfl
theorem firstW_walk (I : Ins) (cl : Option Int) : ∀ (l : List NodeT) (P : PathT) (i : Nat), firstW I cl P l i = 0 ↔ ∃ P', walkW I cl P l = some P'
  | [], P, i => ⟨fun _ => ⟨P, rfl⟩, fun _ => rfl⟩
  | nd :: l, P, i => by
    rw [firstW_cons, walkW_cons]
    cases stepW I cl P nd with
    | none => exact ⟨fun h => absurd h (by simp), fun ⟨P', h⟩ => by cases h⟩
    | some P1 => exact firstW_walk I cl l P1 (i + 1)
theorem tree_nodes : ∀ (l : List NodeT) (o : Nat), treeT o l = true → ∀ nd ∈ l, nodeOkT nd = true := by
  intro l
  induction l with
  | nil => intro o _ nd hm; cases hm
  | cons x l ih =>
    intro o h nd hm
    simp only [treeT, Bool.and_eq_true] at h
    rcases List.mem_cons.1 hm with rfl | hm
    · exact h.1.2
    · exact ih _ h.2 nd hm
theorem node_facts {l : List NodeT} {o : Nat} (h : treeT o l = true) {nd : NodeT} (hm : nd ∈ l) : nd.2.length ≤ 20 ∧ (∀ z ∈ nd.2, -100000000 ≤ z ∧ z ≤ 100000000) ∧ (nd.1 = 1 → nd.2.length = 2) := by
  obtain ⟨h1, h2⟩ := nodeOk_parts (tree_nodes l o h nd hm)
  have h3 := cntT_kind h1
  exact ⟨by omega, h2, fun h => by omega⟩

end Go.Proofs.YtebinaopncclgabGreatDoor
