/- Plain: the document's words of a plan, and the program's. -/
import Derived.Test.YtebinaopncclgabGreatDoorJShape
import Derived.Test.YtebinaopncclgabGreatDoorRefP
namespace Go.Proofs.YtebinaopncclgabGreatDoor

def okC (n : Nat) (c : UInt8) : Bool := decide (49 ≤ c.toNat) && decide (c.toNat - 48 ≤ n)
def okP (n : Nat) (p : List UInt8) : Bool := !p.isEmpty && p.all (okC n)
def plannedS (n : Nat) (l : List UInt8) : Bool := l.isEmpty || (splitB 47 l).all (okP n)
theorem pl_spl (n : Nat) (l : List UInt8) : plGo n l = if ((spl 47 l).1.all (okP n) && (spl 47 l).2.all (okC n)) = true then some (spl 47 l).2.length else none := by
  refine snoc_ind (P := fun l => plGo n l = if ((spl 47 l).1.all (okP n) && (spl 47 l).2.all (okC n)) = true then some (spl 47 l).2.length else none) ?_ ?_ l
  · rfl
  · intro l c ih
    rw [plGo_snoc, ih, spl_snoc]
    generalize spl 47 l = st
    obtain ⟨P, C⟩ := st
    unfold stepL plStep
    by_cases hc : c = 47
    · rw [if_pos hc]
      cases hP : P.all (okP n) <;> cases hC : C.all (okC n) <;> simp [hc, hP, hC, okP, List.all_append]
    · rw [if_neg hc]
      have hk : (c.toNat < 49 ∨ n < c.toNat - 48) ↔ okC n c = false := by
        unfold okC; simp only [Bool.and_eq_false_iff, decide_eq_false_iff_not]; omega
      cases hP : P.all (okP n) <;> cases hC : C.all (okC n) <;> cases hK : okC n c <;> simp [hc, hk, hC, hK, List.all_append]
theorem planned_plan (n : Nat) (l : List UInt8) : plannedS n l = isPlanS n l := by
  unfold plannedS isPlanS splitB
  rw [pl_spl]
  cases l with
  | nil => rfl
  | cons x t =>
    generalize spl 47 (x :: t) = st
    obtain ⟨P, C⟩ := st
    cases hP : P.all (okP n) <;> cases hC : C.all (okC n) <;> simp [hP, hC, List.all_append, okP]
    cases C <;> simp
def digV (p : List UInt8) : List Int := p.map fun c => (c.toNat : Int) - 48
def routeS (p : List UInt8) : List Int := 0 :: (digV p ++ [0])
theorem rt_spl (l : List UInt8) : rtGo l = ((spl 47 l).1.map routeS, 0 :: digV (spl 47 l).2) := by
  refine snoc_ind (P := fun l => rtGo l = ((spl 47 l).1.map routeS, 0 :: digV (spl 47 l).2)) rfl ?_ l
  intro l c ih
  rw [rtGo_snoc, ih, spl_snoc]
  unfold rtStep stepL
  by_cases hc : c = 47
  · rw [if_pos hc, if_pos hc]; simp [routeS, digV]
  · rw [if_neg hc, if_neg hc]; simp [digV]
theorem routes_split (l : List UInt8) (h : l ≠ []) : routesS l = (splitB 47 l).map routeS := by
  unfold routesS splitB
  rw [if_neg h, rt_spl]; simp [routeS]

/- when the van of a route is at its i-th site, and whether it was late by then -/
def stayS (r : Rd) (l : List Int) (i : Nat) : Int := if 0 < l.getD i 0 then stopV r (l.getD i 0).toNat 4 else 0
def begS (r : Rd) (D : Nat → Nat → Int) (l : List Int) : Nat → Int × Bool
  | 0 => (0, false)
  | i + 1 => if l.getD (i + 1) 0 = 0 then ((begS r D l i).1 + stayS r l i + legD D l i, (begS r D l i).2 || decide (r.close < (begS r D l i).1 + stayS r l i + legD D l i))
    else (startS r D l i ((begS r D l i).1 + stayS r l i), (begS r D l i).2 || decide (stopV r (l.getD (i + 1) 0).toNat 3 < startS r D l i ((begS r D l i).1 + stayS r l i)))
theorem tmGo_zero (r : Rd) (D : Nat → Nat → Int) (l S : List Int) : tmGo r D l S 0 = some (0, S) := rfl
theorem beg_stop {r : Rd} {D : Nat → Nat → Int} {l S S' : List Int} {q : Nat} (h : tmGo r D l S q = some ((begS r D l q).1 + stayS r l q, S')) (hf : (begS r D l q).2 = false) (hp : 0 < l.getD (q + 1) 0) :
    tmGo r D l S (q + 1) = if (begS r D l (q + 1)).2 = true then none else some ((begS r D l (q + 1)).1 + stayS r l (q + 1), S'.set ((l.getD (q + 1) 0).toNat - 1) (begS r D l (q + 1)).1) := by
  have hz : ¬ l.getD (q + 1) 0 = 0 := by omega
  have e : stayS r l (q + 1) = stopV r (l.getD (q + 1) 0).toNat 4 := by unfold stayS; rw [if_pos hp]
  rw [tmGo_succ, h, e]
  simp only [tmStep, begS, if_neg hz, hf, Bool.false_or, decide_eq_true_eq]
theorem beg_home {r : Rd} {D : Nat → Nat → Int} {l S S' : List Int} {q : Nat} (h : tmGo r D l S q = some ((begS r D l q).1 + stayS r l q, S')) (hf : (begS r D l q).2 = false) (hz : l.getD (q + 1) 0 = 0) :
    tmGo r D l S (q + 1) = some ((begS r D l (q + 1)).1 + stayS r l (q + 1), S') ∧ (begS r D l (q + 1)).2 = decide (r.close < (begS r D l (q + 1)).1) := by
  have e : stayS r l (q + 1) = 0 := by unfold stayS; rw [if_neg (by omega)]
  rw [tmGo_succ, h, e]
  refine ⟨?_, ?_⟩
  · simp only [tmStep, begS, if_pos hz, Int.add_zero]
  · simp only [begS, if_pos hz, hf, Bool.false_or]
theorem beg_late {r : Rd} {D : Nat → Nat → Int} {l S S' : List Int} {q : Nat} (h : tmGo r D l S q = some ((begS r D l q).1 + stayS r l q, S')) (hf : (begS r D l q).2 = false) (hq : q + 1 < l.length) (hx : ∀ x ∈ l, 0 ≤ x) (hin : ∀ j, j + 2 < l.length → l.getD (j + 1) 0 ≠ 0) (hl : (begS r D l (q + 1)).2 = true) : timeS r D l S = none := by
  have hge : 0 ≤ l.getD (q + 1) 0 := by
    rw [List.getD_eq_getElem?_getD, List.getElem?_eq_getElem hq]; exact hx _ (List.getElem_mem _)
  by_cases hz : l.getD (q + 1) 0 = 0
  · have hqe : q + 1 = l.length - 1 := by
      by_cases h2 : q + 2 < l.length
      · exact absurd hz (hin q h2)
      · omega
    obtain ⟨h1, h2⟩ := beg_home h hf hz
    have e : stayS r l (q + 1) = 0 := by unfold stayS; rw [if_neg (by omega)]
    rw [h2, decide_eq_true_eq] at hl
    unfold timeS
    rw [← hqe, h1, e]
    simp only [Int.add_zero]
    rw [if_neg (by omega)]
  · have h1 := beg_stop h hf (by omega)
    rw [if_pos hl] at h1
    have h2 := tmGo_none r D l S (q + 1) (l.length - 1 - (q + 1)) h1
    rw [show q + 1 + (l.length - 1 - (q + 1)) = l.length - 1 by omega] at h2
    unfold timeS; rw [h2]
theorem beg_end {r : Rd} {D : Nat → Nat → Int} {l S S' : List Int} (h : tmGo r D l S (l.length - 1) = some ((begS r D l (l.length - 1)).1 + stayS r l (l.length - 1), S')) (hlen : 2 ≤ l.length) (hz : l.getD (l.length - 1) 0 = 0) (hf : (begS r D l (l.length - 1)).2 = false) : timeS r D l S = some S' := by
  have e : stayS r l (l.length - 1) = 0 := by unfold stayS; rw [if_neg (by omega)]
  have hc : (begS r D l (l.length - 1)).1 ≤ r.close := by
    obtain ⟨m, hm⟩ : ∃ m, l.length - 1 = m + 1 := ⟨l.length - 2, by omega⟩
    rw [hm] at hf hz ⊢
    simp only [begS, if_pos hz, Bool.or_eq_false_iff, decide_eq_false_iff_not] at hf ⊢
    omega
  unfold timeS
  rw [h, e]
  simp only [Int.add_zero]
  rw [if_pos hc]
end Go.Proofs.YtebinaopncclgabGreatDoor
