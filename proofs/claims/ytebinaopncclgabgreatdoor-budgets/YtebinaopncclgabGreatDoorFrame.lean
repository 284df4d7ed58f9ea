/- Worlds: what a call that writes into memory of its own leaves as it was. No program in sight. -/
import Derived.WalkKit
namespace Go.Proofs.YtebinaopncclgabGreatDoor
open Go.RowKit

/- blocks of elements of other types than those listed stay as they were -/
def Keep (T : List TypeId) (w w' : World) : Prop := ∀ (k : Nat) (cur : Array Value) (t : TypeId) (z : Nat × Nat), w.heap[k]? = some (.cells cur t z) → t ∉ T → w'.heap[k]? = some (.cells cur t z)

theorem Keep.refl (T : List TypeId) (w : World) : Keep T w w := fun _ _ _ _ h _ => h
theorem Keep.trans {T : List TypeId} {a b c : World} (h : Keep T a b) (h' : Keep T b c) : Keep T a c := fun k cur t z hk ht => h' k cur t z (h k cur t z hk ht) ht
theorem Keep.of_below {T : List TypeId} {w w' : World} (h : Below w.heap.size w w') : Keep T w w' := fun k cur t z hk _ => by
  rw [h.block k (Array.getElem?_eq_some_iff.1 hk).1]; exact hk
theorem Keep.setCell {T : List TypeId} {w : World} {g o : Nat} {cur : Array Value} {e : TypeId} {z : Nat × Nat} (hg : w.heap[g]? = some (.cells cur e z)) (he : e ∈ T) (u : Value) : Keep T w (w.setCell ⟨g, o, none⟩ u) := by
  intro k cur' t z' hk ht
  by_cases hkg : k = g
  · subst hkg; rw [hg] at hk; cases hk; exact absurd he ht
  · rw [Below.heap_setCell _ _ _ _ hkg]; exact hk
theorem Keep.grown {T : List TypeId} {w w' : World} {v : Value} {B n size : Nat} {e : TypeId} {xs : List Value} (hown : w.ownsRow B e size v n xs) (he : e ∈ T) (hg : w.grownBy w' v.ownBlock) : Keep T w w' := by
  intro k cur t z hk ht
  rw [hg.block k (Array.getElem?_eq_some_iff.1 hk).1 ?_]
  · exact hk
  · intro hv
    rcases hown.2 with ⟨rfl, _⟩ | ⟨g, cap, cur', rfl, _, hgg, _⟩
    · simp [Value.ownBlock] at hv
    · simp only [Value.ownBlock, Option.some.injEq] at hv
      subst hv; rw [hgg] at hk; cases hk; exact ht he

theorem own_keep {T : List TypeId} {w w' : World} {v : Value} {B n size : Nat} {e : TypeId} {xs : List Value} (hown : w.ownsRow B e size v n xs) (h : Keep T w w') (he : e ∉ T) : w'.ownsRow B e size v n xs := by
  refine ⟨hown.1, ?_⟩
  rcases hown.2 with hn | ⟨g, cap, cur, hv, hb, hg, rest⟩
  · exact .inl hn
  · exact .inr ⟨g, cap, cur, hv, hb, h g cur e _ hg he, rest⟩
theorem own_below {w w' : World} {v : Value} {B n size : Nat} {e : TypeId} {xs : List Value} (hown : w.ownsRow B e size v n xs) (h : Below w.heap.size w w') : w'.ownsRow B e size v n xs := by
  refine ⟨hown.1, ?_⟩
  rcases hown.2 with hn | ⟨g, cap, cur, hv, hb, hg, rest⟩
  · exact .inl hn
  · exact .inr ⟨g, cap, cur, hv, hb, by rw [h.block g (Array.getElem?_eq_some_iff.1 hg).1]; exact hg, rest⟩
theorem own_ne {w : World} {v v' : Value} {B B' n n' size size' : Nat} {e e' : TypeId} {xs xs' : List Value} (h : w.ownsRow B e size v n xs) (h' : w.ownsRow B' e' size' v' n' xs') (he : e ≠ e') : v.ownBlock = none ∨ v.ownBlock ≠ v'.ownBlock := by
  rcases h.2 with ⟨rfl, _⟩ | ⟨g, cap, cur, rfl, _, hg, _⟩
  · exact .inl rfl
  · right
    rcases h'.2 with ⟨rfl, _⟩ | ⟨g', cap', cur', rfl, _, hg', _⟩
    · simp [Value.ownBlock]
    · simp only [Value.ownBlock, ne_eq, Option.some.injEq]
      intro hgg; subst hgg; rw [hg] at hg'; cases hg'; exact he rfl
theorem own_base {w : World} {v : Value} {B B' n size : Nat} {e : TypeId} {xs : List Value} (h : w.ownsRow B e size v n xs) (hB : B' ≤ B) : w.ownsRow B' e size v n xs := by
  refine ⟨h.1, ?_⟩
  rcases h.2 with hn | ⟨g, cap, cur, hv, hb, rest⟩
  · exact .inl hn
  · exact .inr ⟨g, cap, cur, hv, Nat.le_trans hB hb, rest⟩
theorem own_setCell {w : World} {v : Value} {B n size : Nat} {e : TypeId} {xs : List Value} (h : w.ownsRow B e size v n xs) {g o : Nat} {cur : Array Value} {e' : TypeId} {z : Nat × Nat} (hg : w.heap[g]? = some (.cells cur e' z)) (he : e ≠ e') (u : Value) : (w.setCell ⟨g, o, none⟩ u).ownsRow B e size v n xs :=
  own_keep h (Keep.setCell (T := [e']) hg (by simp) u) (by simpa using he)
theorem own_shape {w : World} {v : Value} {B n size : Nat} {e : TypeId} {xs : List Value} (h : w.ownsRow B e size v n xs) (hn : 0 < n) : ∃ g cap cur, v = .slice (some ⟨g, 0, none⟩) n cap ∧ B ≤ g ∧ w.heap[g]? = some (.cells cur e (0, 0)) ∧ n ≤ cap := by
  rcases h.2 with ⟨_, h0⟩ | ⟨g, cap, cur, hv, hb, hg, hc, _⟩
  · omega
  · exact ⟨g, cap, cur, hv, hb, hg, hc⟩
/- the value, of whatever length -/
theorem own_val {w : World} {v : Value} {B n size : Nat} {e : TypeId} {xs : List Value} (h : w.ownsRow B e size v n xs) : ∃ ao cap, v = .slice ao n cap ∧ (∀ a, ao = some a → ∃ g, a = ⟨g, 0, none⟩ ∧ B ≤ g ∧ g < w.heap.size) ∧ (ao = none → n = 0) := by
  rcases h.2 with ⟨rfl, rfl⟩ | ⟨g, cap, cur, rfl, hb, hg, hc, _⟩
  · exact ⟨none, 0, rfl, by simp, fun _ => rfl⟩
  · exact ⟨some ⟨g, 0, none⟩, cap, rfl, fun a ha => ⟨g, (Option.some.inj ha).symm, hb, (Array.getElem?_eq_some_iff.1 hg).1⟩, by simp⟩

end Go.Proofs.YtebinaopncclgabGreatDoor
