/- Plain: what a match of the cells tells of arcs; its tour, its cost; how many branches there can be. No program in sight. -/
import Derived.Test.YtebinaopncclgabGreatDoorQCell
namespace Go.Proofs.YtebinaopncclgabGreatDoor

/- from a site on to the depot -/
inductive PathQ (bh : Nat → Nat) : Nat → List Nat → Prop
  | home : PathQ bh 0 []
  | next {x : Nat} {d : List Nat} : x ≠ 0 → PathQ bh (bh x) d → PathQ bh x (bh x :: d)
theorem PathQ.one {bh : Nat → Nat} {x : Nat} {d : List Nat} (h : PathQ bh x d) : ∀ {e : List Nat}, PathQ bh x e → d = e := by
  induction h with
  | home => intro e he; cases he with
    | home => rfl
    | next h0 _ => exact absurd rfl h0
  | next h0 _ ih => intro e he; cases he with
    | home => exact absurd rfl h0
    | next _ h2 => rw [ih h2]
end Go.Proofs.YtebinaopncclgabGreatDoor
namespace Go.Proofs.YtebinaopncclgabGreatDoor

/- the places of a tree: how deep, and how many nodes there can be -/
inductive PathOk (n : Nat) : PathT → Prop
  | nil : PathOk n []
  | cons {a b : Nat} {s : Bool} {P : PathT} : a ≤ n → b ≤ n → a ≠ b → tabP P a b = 0 → PathOk n P → PathOk n (((a, b), s) :: P)
theorem tab_mem {n : Nat} {P : PathT} (h : PathOk n P) : ∀ {ab : Nat × Nat} {s : Bool}, (ab, s) ∈ P → tabP P ab.1 ab.2 = (if s = true then 1 else 2) ∧ ab.1 ≤ n ∧ ab.2 ≤ n ∧ ab.1 ≠ ab.2 := by
  induction h with
  | nil => intro ab s hm; cases hm
  | @cons a b t P h1 h2 h3 h4 _ ih =>
    intro ab s hm
    rcases List.mem_cons.1 hm with e | e
    · cases e
      exact ⟨upd_at _ _ _ _, h1, h2, h3⟩
    · obtain ⟨k1, k2⟩ := ih e
      refine ⟨?_, k2⟩
      have hne : ¬ (ab.1 = a ∧ ab.2 = b) := fun e => by
        rw [e.1, e.2, h4] at k1
        cases s <;> simp at k1
      exact (upd_ne hne).trans k1
theorem tab_free {n : Nat} {P : PathT} (h : PathOk n P) {a b : Nat} (h0 : tabP P a b = 0) : ∀ s, ((a, b), s) ∉ P := fun s hm => by
  have := (tab_mem h hm).1
  simp only at this
  rw [h0] at this
  cases s <;> simp at this
theorem tab_range {n : Nat} {P : PathT} (h : PathOk n P) (a b : Nat) : tabP P a b = 0 ∨ tabP P a b = 1 ∨ tabP P a b = 2 := by
  induction h with
  | nil => exact .inl rfl
  | @cons a' b' t P h1 h2 h3 h4 _ ih =>
    by_cases e : a = a' ∧ b = b'
    · rw [e.1, e.2]
      have : tabP (((a', b'), t) :: P) a' b' = if t = true then 1 else 2 := upd_at _ _ _ _
      rw [this]; cases t <;> simp
    · have : tabP (((a', b'), t) :: P) a b = tabP P a b := upd_ne e
      rw [this]; exact ih
theorem tab_forced {n : Nat} {P : PathT} (h : PathOk n P) {a b : Nat} (h1 : tabP P a b = 1) : ((a, b), true) ∈ P := by
  induction h with
  | nil => exact absurd h1 (show (0 : Int) ≠ 1 by omega)
  | @cons a' b' t P _ _ _ h4 _ ih =>
    by_cases e : a = a' ∧ b = b'
    · rw [e.1, e.2] at h1 ⊢
      have : tabP (((a', b'), t) :: P) a' b' = if t = true then 1 else 2 := upd_at _ _ _ _
      rw [this] at h1
      cases t with
      | true => simp
      | false => simp at h1
    · have : tabP (((a', b'), t) :: P) a b = tabP P a b := upd_ne e
      rw [this] at h1
      exact List.mem_cons_of_mem _ (ih h1)
theorem path_leave {n : Nat} {P : PathT} (h : PathOk n P) : PathOk n (leaveP P) := by
  induction h with
  | nil => exact .nil
  | @cons a b s P h1 h2 h3 h4 h5 ih =>
    show PathOk n (if s = true then ((a, b), false) :: P else leaveP P)
    split
    · exact .cons h1 h2 h3 h4 h5
    · exact ih
theorem path_nodup {n : Nat} {P : PathT} (h : PathOk n P) : (P.map (·.1)).Nodup := by
  induction h with
  | nil => exact List.nodup_nil
  | @cons a b s P h1 h2 h3 h4 h5 ih =>
    rw [List.map_cons]
    refine List.nodup_cons.2 ⟨fun hm => ?_, ih⟩
    obtain ⟨p, hp, e⟩ := List.mem_map.1 hm
    obtain ⟨ab, t⟩ := p
    simp only at e
    subst e
    exact tab_free h5 h4 t hp
def allArcs : List Nat := (List.range 64).filter fun k => decide (k / 8 ≠ k % 8)
theorem allArcs_len : allArcs.length = 56 := by decide
theorem path_depth {n : Nat} (hn : n ≤ 7) {P : PathT} (h : PathOk n P) : P.length ≤ 56 := by
  have hr : ∀ p ∈ P, p.1.1 ≤ n ∧ p.1.2 ≤ n ∧ p.1.1 ≠ p.1.2 := fun p hp => (tab_mem h (ab := p.1) (s := p.2) hp).2
  have h1 := nodup_sub ((P.map (·.1)).map fun q => q.1 * 8 + q.2) allArcs (by
    rw [List.nodup_iff_pairwise_ne, List.pairwise_map]
    refine List.Pairwise.imp_of_mem (fun ha hb hne e => hne ?_) (List.nodup_iff_pairwise_ne.1 (path_nodup h))
    obtain ⟨p, hp, rfl⟩ := List.mem_map.1 ha
    obtain ⟨q, hq, rfl⟩ := List.mem_map.1 hb
    have h1 := hr p hp
    have h2 := hr q hq
    exact Prod.ext (by omega) (by omega)) (fun x hx => by
    obtain ⟨q, hq, rfl⟩ := List.mem_map.1 hx
    obtain ⟨p, hp, rfl⟩ := List.mem_map.1 hq
    have h1 := hr p hp
    unfold allArcs
    refine List.mem_filter.2 ⟨by simp; omega, ?_⟩
    simp only [decide_eq_true_eq]
    omega)
  rw [List.length_map, List.length_map, allArcs_len] at h1
  exact h1
end Go.Proofs.YtebinaopncclgabGreatDoor
