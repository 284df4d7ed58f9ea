/- Plain: a plan picks a cell in each row and column; what bounds it; a tree that is checked. No program in sight. -/
import Derived.Test.YtebinaopncclgabGreatDoorTPlain
import Derived.Test.YtebinaopncclgabGreatDoorCSq
/- Plain: plans as lists of routes; the cells that they pick; chains along them. No program in sight. -/

/- Plain: a hunt for a column, what holds along it. -/
namespace Go.Proofs.YtebinaopncclgabGreatDoor

/- spread: from a row, which is start away -/
def spC (n : Nat) (C : Nat → Nat → Int) (u v : Nat → Int) (row : Nat) (start : Int) (far : Nat → Int) (dn : Nat → Bool) (c : Nat) : Prop :=
  c < n ∧ dn c = false ∧ C row c ≠ -1 ∧ (far c = -1 ∨ start + C row c - u row - v c < far c)
instance (n : Nat) (C : Nat → Nat → Int) (u v : Nat → Int) (row : Nat) (start : Int) (far : Nat → Int) (dn : Nat → Bool) (c : Nat) : Decidable (spC n C u v row start far dn c) := by unfold spC; infer_instance
/- counting -/
theorem nodup_sub : ∀ (L M : List Nat), L.Nodup → (∀ x ∈ L, x ∈ M) → L.length ≤ M.length := by
  intro L
  induction L with
  | nil => intro M _ _; simp
  | cons a L ih =>
    intro M hd h
    have ha : a ∈ M := h a (by simp)
    have hd' := List.nodup_cons.1 hd
    have h1 := ih (M.erase a) hd'.2 (fun x hx => by
      have hne : x ≠ a := fun e => hd'.1 (e ▸ hx)
      exact (List.mem_erase_of_ne hne).2 (h x (by simp [hx])))
    rw [List.length_erase_of_mem ha] at h1
    have : 0 < M.length := List.length_pos_of_mem ha
    simp; omega
end Go.Proofs.YtebinaopncclgabGreatDoor
namespace Go.Proofs.YtebinaopncclgabGreatDoor

structure Ins where
  n : Nat
  vans : Nat
  load : Int
  close : Int
  D : Nat → Nat → Int
  want : Nat → Int
  frm : Nat → Int
  till : Nat → Int
  stay : Nat → Int
/- a van that is at a site at a time: when it goes on -/
def arrQ (I : Ins) (t : Int) (s : Nat) : Option Int :=
  if s = 0 then (if t ≤ I.close then some t else none) else if (if t < I.frm s then I.frm s else t) ≤ I.till s then some ((if t < I.frm s then I.frm s else t) + I.stay s) else none
/- it leaves p at the time t and goes along the sites -/
def runQ (I : Ins) : Int → Nat → List Nat → Bool
  | _, _, [] => true
  | t, p, s :: l => match arrQ I (t + I.D p s) s with
    | none => false
    | some t' => runQ I t' s l
def chainT (I : Ins) : List Nat → Bool
  | [] => true
  | s :: l => match arrQ I 0 s with
    | none => false
    | some t => runQ I t s l
theorem runQ_cons (I : Ins) (t : Int) (p s : Nat) (l : List Nat) : runQ I t p (s :: l) = match arrQ I (t + I.D p s) s with | none => false | some t' => runQ I t' s l := rfl
def sumW (I : Ins) (l : List Nat) : Int := (l.map fun s => if s = 0 then 0 else I.want s).sum
/- pairs of neighbours -/
def nbr : List Nat → List (Nat × Nat)
  | [] => []
  | [_] => []
  | a :: b :: l => (a, b) :: nbr (b :: l)
theorem nbr_mem : ∀ (l : List Nat) {a b : Nat}, (a, b) ∈ nbr l → ∃ u v, l = u ++ a :: b :: v := by
  intro l
  induction l with
  | nil => intro a b h; cases h
  | cons x l ih =>
    intro a b h
    cases l with
    | nil => cases h
    | cons y l =>
      rcases List.mem_cons.1 h with e | e
      · cases e; exact ⟨[], l, rfl⟩
      · obtain ⟨u, v, h1⟩ := ih e; exact ⟨x :: u, v, by rw [h1]; rfl⟩
/- chains along a plan -/
def twiceQ (c : List Nat) : Prop := ¬ (c.filter fun s => decide (s ≠ 0)).Nodup
structure BlockedQ (I : Ins) (c : List Nat) : Prop where
  why : twiceQ c ∨ I.load < sumW I c ∨ (∃ p ∈ nbr c, I.D p.1 p.2 = -1) ∨ chainT I c = false
end Go.Proofs.YtebinaopncclgabGreatDoor
namespace Go.Proofs.YtebinaopncclgabGreatDoor

def cellQ (I : Ins) (T : Nat → Nat → Int) (i j : Nat) : Int := cellS I.n T I.D (lineN I.n i) (lineN I.n j)
/- a node holds, where the arcs are forced and barred so -/
def risingZ (l : List Int) : Prop := ∀ i, i + 1 < l.length → l.getD i 0 < l.getD (i + 1) 0
def hitsZ (N : Nat) (C : Nat → Nat → Int) (l : List Int) : Nat := ((List.range N).filter fun j => l.any fun r => decide (C r.toNat j ≠ -1)).length
def endsZ (l : List Int) : Prop := ∀ i, i + 2 < l.length → l.getD (i + 1) 0 ≠ 0
structure DualsZ (I : Ins) (T : Nat → Nat → Int) (c : Int) (l : List Int) : Prop where
  len : l.length = 2 * (I.n + I.vans)
  sum : c ≤ l.sum
  under : ∀ i j, i < I.n + I.vans → j < I.n + I.vans → cellQ I T i j ≠ -1 → l.getD i 0 + l.getD (I.n + I.vans + j) 0 ≤ cellQ I T i j
structure HallZ (I : Ins) (T : Nat → Nat → Int) (l : List Int) : Prop where
  rows : ∀ x ∈ l, 0 ≤ x ∧ x < ((I.n + I.vans : Nat) : Int)
  rising : risingZ l
  few : hitsZ (I.n + I.vans) (cellQ I T) l < l.length
structure ChainZ (I : Ins) (T : Nat → Nat → Int) (l : List Int) : Prop where
  ne : l ≠ []
  sites : ∀ x ∈ l, 0 ≤ x ∧ x ≤ (I.n : Int)
  ends : endsZ l
  forced : ∀ i, i + 1 < l.length → T (l.getD i 0).toNat (l.getD (i + 1) 0).toNat = 1
  blocked : BlockedQ I (l.map Int.toNat)
def HoldZ (I : Ins) (cl : Option Int) (T : Nat → Nat → Int) (nd : Int × List Int) : Prop :=
  (nd.1 = 2 ∧ ∃ c, cl = some c ∧ DualsZ I T c nd.2) ∨ (nd.1 = 3 ∧ HallZ I T nd.2) ∨ (nd.1 = 4 ∧ ChainZ I T nd.2)

theorem nbr_getD : ∀ (c : List Nat) (p : Nat × Nat), p ∈ nbr c → ∃ i, i + 1 < c.length ∧ p = (c.getD i 0, c.getD (i + 1) 0) := by
  intro c p hp
  obtain ⟨u, v, h⟩ := nbr_mem c (a := p.1) (b := p.2) hp
  refine ⟨u.length, by rw [h]; simp, ?_⟩
  rw [h]
  simp [List.getD_eq_getElem?_getD]
/- where a node stands: the branches above it, the lowest first, and the side -/
abbrev PathT := List ((Nat × Nat) × Bool)
def tabP : PathT → Nat → Nat → Int
  | [] => fun _ _ => 0
  | p :: P => upd (tabP P) p.1.1 p.1.2 (if p.2 = true then 1 else 2)
def leaveP : PathT → PathT
  | [] => []
  | p :: P => if p.2 = true then (p.1, false) :: P else leaveP P
def arcZ (n : Nat) (l : List Int) : Prop := 0 ≤ l.getD 0 0 ∧ l.getD 0 0 ≤ (n : Int) ∧ 0 ≤ l.getD 1 0 ∧ l.getD 1 0 ≤ (n : Int) ∧ l.getD 0 0 ≠ l.getD 1 0
open Classical in
noncomputable def stepW (I : Ins) (cl : Option Int) (P : PathT) (nd : Int × List Int) : Option PathT :=
  if nd.1 = 1 then (if arcZ I.n nd.2 ∧ tabP P (nd.2.getD 0 0).toNat (nd.2.getD 1 0).toNat = 0 then some ((((nd.2.getD 0 0).toNat, (nd.2.getD 1 0).toNat), true) :: P) else none)
  else if HoldZ I cl (tabP P) nd then some (leaveP P) else none
theorem upd_at (T : Nat → Nat → Int) (a b : Nat) (x : Int) : upd T a b x a b = x := by unfold upd; rw [if_pos ⟨rfl, rfl⟩]
theorem upd_ne {T : Nat → Nat → Int} {a b c d : Nat} {x : Int} (h : ¬ (c = a ∧ d = b)) : upd T a b x c d = T c d := by unfold upd; rw [if_neg h]
end Go.Proofs.YtebinaopncclgabGreatDoor
