/- Plain: the document's words of a plan, and the program's. -/
import Derived.Test.YtebinaopncclgabGreatDoorJShape
import Derived.Test.YtebinaopncclgabGreatDoorRefP
namespace Go.Proofs.YtebinaopncclgabGreatDoor

def okC (n : Nat) (c : UInt8) : Bool := decide (49 ≤ c.toNat) && decide (c.toNat - 48 ≤ n)
def okP (n : Nat) (p : List UInt8) : Bool := !p.isEmpty && p.all (okC n)
def plannedS (n : Nat) (l : List UInt8) : Bool := l.isEmpty || (splitB 47 l).all (okP n)
theorem pl_spl (n : Nat) (l : List UInt8) : plGo n l = if ((spl 47 l).1.all (okP n) && (spl 47 l).2.all (okC n)) = true then some (spl 47 l).2.length else none := by
  refine snoc_ind (P := fun l => plGo n l = if ((spl 47 l).1.all (okP n) && (spl 47 l).2.all (okC n)) = true then some (spl 47 l).2.length else none) ?_ ?_ l
  · rfl
  · intro l c ih
    rw [plGo_snoc, ih, spl_snoc]
    generalize spl 47 l = st
    obtain ⟨P, C⟩ := st
    unfold stepL plStep
    by_cases hc : c = 47
    · rw [if_pos hc]
      cases hP : P.all (okP n) <;> cases hC : C.all (okC n) <;> simp [hc, hP, hC, okP, List.all_append]
    · rw [if_neg hc]
      have hk : (c.toNat < 49 ∨ n < c.toNat - 48) ↔ okC n c = false := by
        unfold okC; simp only [Bool.and_eq_false_iff, decide_eq_false_iff_not]; omega
      cases hP : P.all (okP n) <;> cases hC : C.all (okC n) <;> cases hK : okC n c <;> simp [hc, hk, hC, hK, List.all_append]
theorem planned_plan (n : Nat) (l : List UInt8) : plannedS n l = isPlanS n l := by
  unfold plannedS isPlanS splitB
  rw [pl_spl]
  cases l with
  | nil => rfl
  | cons x t =>
    generalize spl 47 (x :: t) = st
    obtain ⟨P, C⟩ := st
    cases hP : P.all (okP n) <;> cases hC : C.all (okC n) <;> simp [hP, hC, List.all_append, okP]
    cases C <;> simp
def digV (p : List UInt8) : List Int := p.map fun c => (c.toNat : Int) - 48
def routeS (p : List UInt8) : List Int := 0 :: (digV p ++ [0])
theorem rt_spl (l : List UInt8) : rtGo l = ((spl 47 l).1.map routeS, 0 :: digV (spl 47 l).2) := by
  refine snoc_ind (P := fun l => rtGo l = ((spl 47 l).1.map routeS, 0 :: digV (spl 47 l).2)) rfl ?_ l
  intro l c ih
  rw [rtGo_snoc, ih, spl_snoc]
  unfold rtStep stepL
  by_cases hc : c = 47
  · rw [if_pos hc, if_pos hc]; simp [routeS, digV]
  · rw [if_neg hc, if_neg hc]; simp [digV]
theorem routes_split (l : List UInt8) (h : l ≠ []) : routesS l = (splitB 47 l).map routeS := by
  unfold routesS splitB
  rw [if_neg h, rt_spl]; simp [routeS]

end Go.Proofs.YtebinaopncclgabGreatDoor
