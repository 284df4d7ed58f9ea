/- Plain mathematics: the first node of a tree that does not hold, node by node and tree by tree. No program in sight. -/
import Derived.Test.YtebinaopncclgabGreatDoorSMatch
namespace Go.Proofs.YtebinaopncclgabGreatDoor

theorem path_step {I : Ins} {cl : Option Int} {P P' : PathT} {nd : NodeT} (h : PathOk I.n P) (hs : stepW I cl P nd = some P') : PathOk I.n P' := by
  unfold stepW at hs
  split at hs
  · split at hs
    · rename_i hc
      cases hs
      obtain ⟨⟨h1, h2, h3, h4, h5⟩, h6⟩ := hc
      exact .cons (by omega) (by omega) (by omega) h6 h
    · cases hs
  · split at hs
    · cases hs; exact path_leave h
    · cases hs
/- the first node that does not hold, counted from one; 0 where all do -/
noncomputable def firstW (I : Ins) (cl : Option Int) : PathT → List NodeT → Nat → Nat
  | _, [], _ => 0
  | P, nd :: l, i => match stepW I cl P nd with
    | none => i + 1
    | some P' => firstW I cl P' l (i + 1)
theorem firstW_cons (I : Ins) (cl : Option Int) (P : PathT) (nd : NodeT) (l : List NodeT) (i : Nat) : firstW I cl P (nd :: l) i = match stepW I cl P nd with | none => i + 1 | some P' => firstW I cl P' l (i + 1) := rfl
theorem tree_nodes : ∀ (l : List NodeT) (o : Nat), treeT o l = true → ∀ nd ∈ l, nodeOkT nd = true := by
  intro l
  induction l with
  | nil => intro o _ nd hm; cases hm
  | cons x l ih =>
    intro o h nd hm
    simp only [treeT, Bool.and_eq_true] at h
    rcases List.mem_cons.1 hm with rfl | hm
    · exact h.1.2
    · exact ih _ h.2 nd hm
theorem node_facts {l : List NodeT} {o : Nat} (h : treeT o l = true) {nd : NodeT} (hm : nd ∈ l) : nd.2.length ≤ 20 ∧ (∀ z ∈ nd.2, -100000000 ≤ z ∧ z ≤ 100000000) ∧ (nd.1 = 1 → nd.2.length = 2) := by
  obtain ⟨h1, h2⟩ := nodeOk_parts (tree_nodes l o h nd hm)
  have h3 := cntT_kind h1
  exact ⟨by omega, h2, fun h => by omega⟩

/- what is told of the tree that begins at a node, with k trees behind it -/
def FirstOk (I : Ins) (cl : Option Int) (L : List NodeT) (P : PathT) (i k bad next : Nat) : Prop :=
  (bad ≠ 0 ∧ firstW I cl P (L.drop i) i = bad) ∨ (bad = 0 ∧ i < next ∧ next ≤ L.length ∧ treeT k (L.drop next) = true ∧ firstW I cl P (L.drop i) i = firstW I cl (leaveP P) (L.drop next) next)
theorem tree_cons {L : List NodeT} {i k : Nat} (h : treeT (k + 1) (L.drop i) = true) : ∃ hi : i < L.length, L.drop i = L[i] :: L.drop (i + 1) ∧ nodeOkT L[i] = true ∧ treeT (nextT (k + 1) L[i].1) (L.drop (i + 1)) = true := by
  by_cases hi : i < L.length
  · refine ⟨hi, List.drop_eq_getElem_cons hi, ?_⟩
    rw [List.drop_eq_getElem_cons hi] at h
    simp only [treeT, Bool.and_eq_true] at h
    exact ⟨h.1.2, h.2⟩
  · rw [List.drop_eq_nil_of_le (by omega)] at h
    simp [treeT] at h
theorem first_bad {I : Ins} {cl : Option Int} {L : List NodeT} {P : PathT} {i k next : Nat} (h : treeT (k + 1) (L.drop i) = true) {nd : NodeT} (hn : L[i]? = some nd) (hs : stepW I cl P nd = none) : FirstOk I cl L P i k (i + 1) next := by
  obtain ⟨hi, e, _, _⟩ := tree_cons h
  rw [List.getElem?_eq_getElem hi] at hn
  cases hn
  refine .inl ⟨by omega, ?_⟩
  rw [e, firstW_cons, hs]
theorem first_leaf {I : Ins} {cl : Option Int} {L : List NodeT} {P P' : PathT} {i k : Nat} (h : treeT (k + 1) (L.drop i) = true) {nd : NodeT} (hn : L[i]? = some nd) (hk : nd.1 ≠ 1) (hs : stepW I cl P nd = some P') : FirstOk I cl L P i k 0 (i + 1) := by
  obtain ⟨hi, e, _, ht⟩ := tree_cons h
  rw [List.getElem?_eq_getElem hi] at hn
  cases hn
  have hP : P' = leaveP P := by
    unfold stepW at hs
    rw [if_neg hk] at hs
    split at hs
    · cases hs; rfl
    · cases hs
  subst hP
  unfold nextT at ht
  rw [if_neg hk] at ht
  refine .inr ⟨rfl, by omega, by omega, ht, ?_⟩
  rw [e, firstW_cons, hs]
theorem first_branch {I : Ins} {cl : Option Int} {L : List NodeT} {P : PathT} {i k : Nat} {ab : Nat × Nat} (h : treeT (k + 1) (L.drop i) = true) {nd : NodeT} (hn : L[i]? = some nd) (hk : nd.1 = 1) (hs : stepW I cl P nd = some ((ab, true) :: P)) :
    treeT (k + 2) (L.drop (i + 1)) = true ∧ (∀ bad next next', bad ≠ 0 → FirstOk I cl L ((ab, true) :: P) (i + 1) (k + 1) bad next → FirstOk I cl L P i k bad next') ∧
    (∀ next bad next', FirstOk I cl L ((ab, true) :: P) (i + 1) (k + 1) 0 next → treeT (k + 1) (L.drop next) = true ∧ i < next ∧ next ≤ L.length ∧ (FirstOk I cl L ((ab, false) :: P) next k bad next' → FirstOk I cl L P i k bad next')) := by
  obtain ⟨hi, e, _, ht⟩ := tree_cons h
  rw [List.getElem?_eq_getElem hi] at hn
  cases hn
  unfold nextT at ht
  rw [if_pos hk] at ht
  have hf : firstW I cl P (L.drop i) i = firstW I cl ((ab, true) :: P) (L.drop (i + 1)) (i + 1) := by rw [e, firstW_cons, hs]
  refine ⟨ht, fun bad next next' hb h1 => ?_, fun next bad next' h1 => ?_⟩
  · rcases h1 with ⟨_, h1⟩ | ⟨h1, _⟩
    · exact .inl ⟨hb, hf.trans h1⟩
    · exact absurd h1 hb
  · rcases h1 with ⟨h1, _⟩ | ⟨_, h1, h2, h3, h4⟩
    · exact absurd rfl h1
    · refine ⟨h3, by omega, h2, fun h5 => ?_⟩
      have e2 : leaveP ((ab, true) :: P) = (ab, false) :: P := rfl
      have e3 : leaveP ((ab, false) :: P) = leaveP P := rfl
      rw [e2] at h4
      rcases h5 with ⟨k1, k2⟩ | ⟨k1, k2, k3, k4, k5⟩
      · exact .inl ⟨k1, hf.trans (h4.trans k2)⟩
      · rw [e3] at k5
        exact .inr ⟨k1, by omega, k3, k4, hf.trans (h4.trans k5)⟩
theorem first_all {I : Ins} {cl : Option Int} {L : List NodeT} {bad next : Nat} (h : FirstOk I cl L [] 0 0 bad next) : firstW I cl [] L 0 = bad := by
  rcases h with ⟨_, h⟩ | ⟨h1, h2, h3, h4, h5⟩
  · simpa using h
  · have e : L.drop next = [] := by
      cases hd : L.drop next with
      | nil => rfl
      | cons x t => rw [hd] at h4; simp [treeT] at h4
    rw [e] at h5
    rw [h1]
    have e2 : firstW I cl (leaveP []) [] next = 0 := rfl
    rw [e2] at h5; simpa using h5
end Go.Proofs.YtebinaopncclgabGreatDoor
