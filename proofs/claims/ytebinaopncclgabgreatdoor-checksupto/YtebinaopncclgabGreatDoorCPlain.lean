/- Plain: arcs as a list, and as a table. -/
import Derived.Test.YtebinaopncclgabGreatDoorCCell
import Derived.Test.YtebinaopncclgabGreatDoorCArc
namespace Go.Proofs.YtebinaopncclgabGreatDoor

def ArcsOk (n : Nat) (L : List (List Int)) : Prop := ∀ q ∈ L, ∃ a b : Nat, q = [(a : Int), (b : Int)] ∧ a < n + 1 ∧ b < n + 1 ∧ a ≠ b
/- a table with some arcs marked -/
def putT (T : Nat → Nat → Int) (L : List (List Int)) (what : Int) : Nat → Nat → Int := fun a b => if [(a : Int), (b : Int)] ∈ L then what else T a b
def tabS (on off : List (List Int)) : Nat → Nat → Int := putT (putT (fun _ _ => 0) on 1) off 2
/- a cell by the lists -/
def rivalB (on : List (List Int)) (a b : Nat) : Bool := on.any fun q => decide ((a ≠ 0 ∧ q.getD 0 0 = a ∧ q.getD 1 0 ≠ b) ∨ (b ≠ 0 ∧ q.getD 1 0 = b ∧ q.getD 0 0 ≠ a))
def cellD (on off : List (List Int)) (D : Nat → Nat → Int) (a b : Nat) : Int := if a = 0 ∧ b = 0 then 0 else if a = b ∨ [(a : Int), (b : Int)] ∈ off ∨ rivalB on a b = true then -1 else D a b
theorem tab_two {on off : List (List Int)} (a b : Nat) : tabS on off a b = 2 ↔ [(a : Int), (b : Int)] ∈ off := by
  unfold tabS putT
  by_cases h : [(a : Int), (b : Int)] ∈ off
  · simp [h]
  · simp [h]; split <;> omega
theorem tab_one {on off : List (List Int)} (hd : ∀ q ∈ on, q ∉ off) (a b : Nat) : tabS on off a b = 1 ↔ [(a : Int), (b : Int)] ∈ on := by
  unfold tabS putT
  by_cases h : [(a : Int), (b : Int)] ∈ on
  · simp [h, hd _ h]
  · by_cases h2 : [(a : Int), (b : Int)] ∈ off
    · simp [h, h2]
    · simp [h, h2]
theorem fe_rival {n : Nat} {on off : List (List Int)} (ho : ArcsOk n on) (hd : ∀ q ∈ on, q ∉ off) (a b : Nat) : feS n (tabS on off) a b = rivalB on a b := by
  rw [Bool.eq_iff_iff]
  unfold feS rivalB
  rw [List.any_eq_true, List.any_eq_true]
  constructor
  · rintro ⟨c, hc, h⟩
    have h := of_decide_eq_true h
    rcases h with ⟨h1, h2, h3⟩ | ⟨h1, h2, h3⟩
    · exact ⟨_, (tab_one hd a c).1 h3, decide_eq_true (.inl ⟨h1, rfl, by show (c : Int) ≠ b; omega⟩)⟩
    · exact ⟨_, (tab_one hd c b).1 h3, decide_eq_true (.inr ⟨h1, rfl, by show (c : Int) ≠ a; omega⟩)⟩
  · rintro ⟨q, hq, h⟩
    obtain ⟨x, y, rfl, hx, hy, hxy⟩ := ho q hq
    have h := of_decide_eq_true h
    simp at h
    rcases h with ⟨h1, h2, h3⟩ | ⟨h1, h2, h3⟩
    · have : x = a := by omega
      subst this
      exact ⟨y, by simpa using hy, decide_eq_true (.inl ⟨h1, by omega, (tab_one hd x y).2 hq⟩)⟩
    · have : y = b := by omega
      subst this
      exact ⟨x, by simpa using hx, decide_eq_true (.inr ⟨h1, by omega, (tab_one hd x y).2 hq⟩)⟩
theorem cell_same {n : Nat} {on off : List (List Int)} (ho : ArcsOk n on) (hd : ∀ q ∈ on, q ∉ off) (D : Nat → Nat → Int) (a b : Nat) : cellS n (tabS on off) D a b = cellD on off D a b := by
  unfold cellS cellD
  rw [fe_rival ho hd]
  simp only [tab_two]
end Go.Proofs.YtebinaopncclgabGreatDoor
