/- Plain: a plan picks a cell in each row and column; what bounds it; a tree that is checked. No program in sight. -/
import Derived.Test.YtebinaopncclgabGreatDoorAPlain
import Derived.Test.YtebinaopncclgabGreatDoorTPlain
import Derived.Test.YtebinaopncclgabGreatDoorCSq
namespace Go.Proofs.YtebinaopncclgabGreatDoor

structure Ins where
  n : Nat
  vans : Nat
  load : Int
  close : Int
  D : Nat → Nat → Int
  want : Nat → Int
  frm : Nat → Int
  till : Nat → Int
  stay : Nat → Int
structure InsOk (I : Ins) : Prop where
  close : 0 ≤ I.close
  load : 0 ≤ I.load
  want : ∀ s, 1 ≤ s → s ≤ I.n → 0 ≤ I.want s
  frm : ∀ s, 1 ≤ s → s ≤ I.n → 0 ≤ I.frm s ∧ I.frm s ≤ I.till s
  stay : ∀ s, 1 ≤ s → s ≤ I.n → 0 ≤ I.stay s
  D : ∀ a b, a ≤ I.n → b ≤ I.n → -1 ≤ I.D a b

/- a van that is at a site at a time: when it goes on -/
def arrQ (I : Ins) (t : Int) (s : Nat) : Option Int :=
  if s = 0 then (if t ≤ I.close then some t else none) else if (if t < I.frm s then I.frm s else t) ≤ I.till s then some ((if t < I.frm s then I.frm s else t) + I.stay s) else none
/- it leaves p at the time t and goes along the sites -/
def runQ (I : Ins) : Int → Nat → List Nat → Bool
  | _, _, [] => true
  | t, p, s :: l => match arrQ I (t + I.D p s) s with
    | none => false
    | some t' => runQ I t' s l
def chainT (I : Ins) : List Nat → Bool
  | [] => true
  | s :: l => match arrQ I 0 s with
    | none => false
    | some t => runQ I t s l
theorem runQ_cons (I : Ins) (t : Int) (p s : Nat) (l : List Nat) : runQ I t p (s :: l) = match arrQ I (t + I.D p s) s with | none => false | some t' => runQ I t' s l := rfl
/- the arcs of a route, and of routes -/
def arcsR (ρ : List Nat) : List (Nat × Nat) := (0 :: ρ).zip (ρ ++ [0])
def arcsQ (R : List (List Nat)) : List (Nat × Nat) := (R.map arcsR).flatten
def sumA (D : Nat → Nat → Int) (A : List (Nat × Nat)) : Int := (A.map fun p => D p.1 p.2).sum
def sumW (I : Ins) (l : List Nat) : Int := (l.map fun s => if s = 0 then 0 else I.want s).sum
structure PlanQ (I : Ins) (R : List (List Nat)) : Prop where
  few : R.length ≤ I.vans
  ne : ∀ ρ ∈ R, ρ ≠ []
  stops : ∀ s ∈ R.flatten, 1 ≤ s ∧ s ≤ I.n
  once : R.flatten.Nodup
  all : ∀ s, 1 ≤ s → s ≤ I.n → s ∈ R.flatten
  load : ∀ ρ ∈ R, sumW I ρ ≤ I.load
  way : ∀ p ∈ arcsQ R, I.D p.1 p.2 ≠ -1
  time : ∀ ρ ∈ R, runQ I 0 0 (ρ ++ [0]) = true
def costQ (I : Ins) (R : List (List Nat)) : Int := sumA I.D (arcsQ R)

theorem sumW_app (I : Ins) (a b : List Nat) : sumW I (a ++ b) = sumW I a + sumW I b := by simp [sumW]
/- pairs of neighbours -/
def nbr : List Nat → List (Nat × Nat)
  | [] => []
  | [_] => []
  | a :: b :: l => (a, b) :: nbr (b :: l)
theorem nbr_zip : ∀ (x : Nat) (l : List Nat), (x :: l).zip l = nbr (x :: l) := by
  intro x l
  induction l generalizing x with
  | nil => rfl
  | cons y l ih => show (x, y) :: (y :: l).zip l = _; rw [ih]; rfl
theorem arcs_nbr (ρ : List Nat) : arcsR ρ = nbr (0 :: (ρ ++ [0])) := by
  unfold arcsR
  rw [← nbr_zip]
  have key : ∀ (a b c : List Nat), a.length = b.length → (a ++ c).zip b = a.zip b := by
    intro a
    induction a with
    | nil => intro b c h; have : b = [] := List.length_eq_zero_iff.1 h.symm; subst this; simp
    | cons x a ih =>
      intro b c h
      cases b with
      | nil => simp at h
      | cons y b => simp only [List.cons_append, List.zip_cons_cons]; rw [ih b c (by simpa using h)]
  have := key (0 :: ρ) (ρ ++ [0]) [0] (by simp)
  simpa using this.symm
theorem nbr_app : ∀ (a b : List Nat) (x : Nat), nbr (a ++ x :: b) = nbr (a ++ [x]) ++ nbr (x :: b) := by
  intro a
  induction a with
  | nil => intro b x; simp [nbr]
  | cons y a ih =>
    intro b x
    cases a with
    | nil => simp [nbr]
    | cons z a =>
      show (y, z) :: nbr (z :: a ++ x :: b) = _
      rw [ih b x]; rfl
/- firsts and seconds of the arcs that are stops -/
theorem arcs_fst (ρ : List Nat) : (arcsR ρ).map (·.1) = 0 :: ρ := by
  unfold arcsR
  rw [List.map_fst_zip]; simp
theorem arcs_snd (ρ : List Nat) : (arcsR ρ).map (·.2) = ρ ++ [0] := by
  unfold arcsR
  rw [List.map_snd_zip]; simp
theorem filter_all {L : List Nat} (h : ∀ s ∈ L, s ≠ 0) : L.filter (fun s => decide (s ≠ 0)) = L := by
  rw [List.filter_eq_self]; intro a ha; simpa using h a ha
theorem arcsQ_fst {R : List (List Nat)} (h : ∀ s ∈ R.flatten, s ≠ 0) : ((arcsQ R).map (·.1)).filter (fun s => decide (s ≠ 0)) = R.flatten := by
  induction R with
  | nil => rfl
  | cons ρ R ih =>
    have h1 : ∀ s ∈ ρ, s ≠ 0 := fun s hs => h s (by simp [hs])
    have h2 : ∀ s ∈ R.flatten, s ≠ 0 := fun s hs => h s (by rw [List.flatten_cons]; exact List.mem_append_right _ hs)
    unfold arcsQ at ih ⊢
    rw [List.map_cons, List.flatten_cons, List.map_append, List.filter_append, ih h2, arcs_fst, List.flatten_cons]
    congr 1
    rw [List.filter_cons_of_neg (by simp), filter_all h1]
theorem arcsQ_snd {R : List (List Nat)} (h : ∀ s ∈ R.flatten, s ≠ 0) : ((arcsQ R).map (·.2)).filter (fun s => decide (s ≠ 0)) = R.flatten := by
  induction R with
  | nil => rfl
  | cons ρ R ih =>
    have h1 : ∀ s ∈ ρ, s ≠ 0 := fun s hs => h s (by simp [hs])
    have h2 : ∀ s ∈ R.flatten, s ≠ 0 := fun s hs => h s (by rw [List.flatten_cons]; exact List.mem_append_right _ hs)
    unfold arcsQ at ih ⊢
    rw [List.map_cons, List.flatten_cons, List.map_append, List.filter_append, ih h2, arcs_snd, List.flatten_cons]
    congr 1
    rw [List.filter_append, filter_all h1]; simp
theorem PlanQ.nz {I : Ins} {R : List (List Nat)} (h : PlanQ I R) : ∀ s ∈ R.flatten, s ≠ 0 := fun s hs => by have := h.stops s hs; omega
theorem arcs_range {I : Ins} {R : List (List Nat)} (h : PlanQ I R) : ∀ p ∈ arcsQ R, p.1 ≤ I.n ∧ p.2 ≤ I.n := by
  intro p hp
  constructor
  · by_cases h0 : p.1 = 0
    · omega
    · have : p.1 ∈ R.flatten := by
        rw [← arcsQ_fst h.nz]; exact List.mem_filter.2 ⟨List.mem_map.2 ⟨p, hp, rfl⟩, by simpa using h0⟩
      exact (h.stops _ this).2
  · by_cases h0 : p.2 = 0
    · omega
    · have : p.2 ∈ R.flatten := by
        rw [← arcsQ_snd h.nz]; exact List.mem_filter.2 ⟨List.mem_map.2 ⟨p, hp, rfl⟩, by simpa using h0⟩
      exact (h.stops _ this).2
theorem nbr_mem : ∀ (l : List Nat) {a b : Nat}, (a, b) ∈ nbr l → ∃ u v, l = u ++ a :: b :: v := by
  intro l
  induction l with
  | nil => intro a b h; cases h
  | cons x l ih =>
    intro a b h
    cases l with
    | nil => cases h
    | cons y l =>
      rcases List.mem_cons.1 h with e | e
      · cases e; exact ⟨[], l, rfl⟩
      · obtain ⟨u, v, h1⟩ := ih e; exact ⟨x :: u, v, by rw [h1]; rfl⟩
/- chains along a plan -/
def twiceQ (c : List Nat) : Prop := ¬ (c.filter fun s => decide (s ≠ 0)).Nodup
structure BlockedQ (I : Ins) (c : List Nat) : Prop where
  why : twiceQ c ∨ I.load < sumW I c ∨ (∃ p ∈ nbr c, I.D p.1 p.2 = -1) ∨ chainT I c = false
end Go.Proofs.YtebinaopncclgabGreatDoor
namespace Go.Proofs.YtebinaopncclgabGreatDoor

/- rows and columns that are paired -/
structure Pick (N : Nat) (L : List (Nat × Nat)) : Prop where
  f1 : (L.map (·.1)).Nodup
  f2 : ∀ p ∈ L, p.1 < N ∧ p.2 < N
  f3 : L.length = N
  s1 : (L.map (·.2)).Nodup
theorem PlanQ.count {I : Ins} {R : List (List Nat)} (h : PlanQ I R) : R.flatten.length = I.n := by
  have h1 := nodup_sub R.flatten ((List.range I.n).map (· + 1)) h.once fun s hs => by
    have := h.stops s hs
    exact List.mem_map.2 ⟨s - 1, by simp; omega, by omega⟩
  have hnd : ((List.range I.n).map (· + 1)).Nodup := by
    rw [List.nodup_iff_pairwise_ne, List.pairwise_map]
    exact List.Pairwise.imp (fun h => by omega) (List.nodup_iff_pairwise_ne.1 List.nodup_range)
  have h2 := nodup_sub ((List.range I.n).map (· + 1)) R.flatten hnd fun s hs => by
    obtain ⟨i, hi, rfl⟩ := List.mem_map.1 hs
    exact h.all _ (by omega) (by simp at hi; omega)
  rw [List.length_map, List.length_range] at h1 h2
  omega
theorem nodup_map_on {L : List Nat} {f : Nat → Nat} (h : L.Nodup) (hf : ∀ a ∈ L, ∀ b ∈ L, f a = f b → a = b) : (L.map f).Nodup := by
  rw [List.nodup_iff_pairwise_ne, List.pairwise_map]
  exact List.Pairwise.imp_of_mem (fun ha hb hne e => hne (hf _ ha _ hb e)) (List.nodup_iff_pairwise_ne.1 h)
def cellQ (I : Ins) (T : Nat → Nat → Int) (i j : Nat) : Int := cellS I.n T I.D (lineN I.n i) (lineN I.n j)
theorem line_van (n k : Nat) : lineN n (n + k) = 0 := by unfold lineN; rw [if_neg (by omega)]
theorem line_stop {n s : Nat} (h : 1 ≤ s ∧ s ≤ n) : lineN n (s - 1) = s := by unfold lineN; rw [if_pos (by omega)]; omega
/- a node holds, where the arcs are forced and barred so -/
def risingZ (l : List Int) : Prop := ∀ i, i + 1 < l.length → l.getD i 0 < l.getD (i + 1) 0
def hitsZ (N : Nat) (C : Nat → Nat → Int) (l : List Int) : Nat := ((List.range N).filter fun j => l.any fun r => decide (C r.toNat j ≠ -1)).length
def endsZ (l : List Int) : Prop := ∀ i, i + 2 < l.length → l.getD (i + 1) 0 ≠ 0
structure DualsZ (I : Ins) (T : Nat → Nat → Int) (c : Int) (l : List Int) : Prop where
  len : l.length = 2 * (I.n + I.vans)
  sum : c ≤ l.sum
  under : ∀ i j, i < I.n + I.vans → j < I.n + I.vans → cellQ I T i j ≠ -1 → l.getD i 0 + l.getD (I.n + I.vans + j) 0 ≤ cellQ I T i j
structure HallZ (I : Ins) (T : Nat → Nat → Int) (l : List Int) : Prop where
  rows : ∀ x ∈ l, 0 ≤ x ∧ x < ((I.n + I.vans : Nat) : Int)
  rising : risingZ l
  few : hitsZ (I.n + I.vans) (cellQ I T) l < l.length
structure ChainZ (I : Ins) (T : Nat → Nat → Int) (l : List Int) : Prop where
  ne : l ≠ []
  sites : ∀ x ∈ l, 0 ≤ x ∧ x ≤ (I.n : Int)
  ends : endsZ l
  forced : ∀ i, i + 1 < l.length → T (l.getD i 0).toNat (l.getD (i + 1) 0).toNat = 1
  blocked : BlockedQ I (l.map Int.toNat)
def HoldZ (I : Ins) (cl : Option Int) (T : Nat → Nat → Int) (nd : Int × List Int) : Prop :=
  (nd.1 = 2 ∧ ∃ c, cl = some c ∧ DualsZ I T c nd.2) ∨ (nd.1 = 3 ∧ HallZ I T nd.2) ∨ (nd.1 = 4 ∧ ChainZ I T nd.2)

theorem sum_getD : ∀ (l : List Int), l.sum = sumL (fun i => l.getD i 0) (List.range l.length) := by
  intro l
  have key : ∀ k, k ≤ l.length → (l.take k).sum = sumL (fun i => l.getD i 0) (List.range k) := by
    intro k
    induction k with
    | zero => intro _; simp [sumL]
    | succ k ih =>
      intro h
      rw [List.take_succ_eq_append_getElem (by omega), List.sum_append_int, ih (by omega), List.range_succ, sumL_append]
      simp [sumL, List.getD_eq_getElem?_getD, List.getElem?_eq_getElem (show k < l.length by omega)]
  have := key l.length (Nat.le_refl _)
  rwa [List.take_length] at this
theorem sum_halves {l : List Int} {N : Nat} (h : l.length = 2 * N) : l.sum = sumL (fun i => l.getD i 0) (List.range N) + sumL (fun j => l.getD (N + j) 0) (List.range N) := by
  rw [sum_getD, h, show 2 * N = N + N by omega, List.range_add, sumL_append]
  congr 1
  rw [sumL_map]
theorem nbr_getD : ∀ (c : List Nat) (p : Nat × Nat), p ∈ nbr c → ∃ i, i + 1 < c.length ∧ p = (c.getD i 0, c.getD (i + 1) 0) := by
  intro c p hp
  obtain ⟨u, v, h⟩ := nbr_mem c (a := p.1) (b := p.2) hp
  refine ⟨u.length, by rw [h]; simp, ?_⟩
  rw [h]
  simp [List.getD_eq_getElem?_getD]
theorem getD_map_nat (l : List Int) (i : Nat) : (l.map Int.toNat).getD i 0 = (l.getD i 0).toNat := by
  rw [List.getD_eq_getElem?_getD, List.getD_eq_getElem?_getD, List.getElem?_map]
  cases l[i]? <;> rfl
/- where a node stands: the branches above it, the lowest first, and the side -/
abbrev PathT := List ((Nat × Nat) × Bool)
def tabP : PathT → Nat → Nat → Int
  | [] => fun _ _ => 0
  | p :: P => upd (tabP P) p.1.1 p.1.2 (if p.2 = true then 1 else 2)
def leaveP : PathT → PathT
  | [] => []
  | p :: P => if p.2 = true then (p.1, false) :: P else leaveP P
def forcedP (P : PathT) : Nat := (P.filter (·.2)).length
def arcZ (n : Nat) (l : List Int) : Prop := 0 ≤ l.getD 0 0 ∧ l.getD 0 0 ≤ (n : Int) ∧ 0 ≤ l.getD 1 0 ∧ l.getD 1 0 ≤ (n : Int) ∧ l.getD 0 0 ≠ l.getD 1 0
open Classical in
noncomputable def stepW (I : Ins) (cl : Option Int) (P : PathT) (nd : Int × List Int) : Option PathT :=
  if nd.1 = 1 then (if arcZ I.n nd.2 ∧ tabP P (nd.2.getD 0 0).toNat (nd.2.getD 1 0).toNat = 0 then some ((((nd.2.getD 0 0).toNat, (nd.2.getD 1 0).toNat), true) :: P) else none)
  else if HoldZ I cl (tabP P) nd then some (leaveP P) else none
noncomputable def walkW (I : Ins) (cl : Option Int) : PathT → List (Int × List Int) → Option PathT
  | P, [] => some P
  | P, nd :: l => match stepW I cl P nd with
    | none => none
    | some P' => walkW I cl P' l
theorem walkW_cons (I : Ins) (cl : Option Int) (P : PathT) (nd : Int × List Int) (l : List (Int × List Int)) : walkW I cl P (nd :: l) = match stepW I cl P nd with | none => none | some P' => walkW I cl P' l := rfl
theorem leave_forced (P : PathT) : forcedP (leaveP P) = forcedP P - 1 := by
  induction P with
  | nil => rfl
  | cons p P ih =>
    unfold leaveP forcedP
    by_cases h : p.2 = true
    · rw [if_pos h, List.filter_cons_of_pos h, List.filter_cons_of_neg (by simp)]; simp
    · rw [if_neg h, List.filter_cons_of_neg h]; exact ih
theorem upd_at (T : Nat → Nat → Int) (a b : Nat) (x : Int) : upd T a b x a b = x := by unfold upd; rw [if_pos ⟨rfl, rfl⟩]
theorem upd_ne {T : Nat → Nat → Int} {a b c d : Nat} {x : Int} (h : ¬ (c = a ∧ d = b)) : upd T a b x c d = T c d := by unfold upd; rw [if_neg h]
end Go.Proofs.YtebinaopncclgabGreatDoor
