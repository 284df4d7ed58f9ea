/- Plain: a plan picks a cell in each row and column; what bounds it; a tree that is checked. No program in sight. -/
import Derived.Test.YtebinaopncclgabGreatDoorAPlain
import Derived.Test.YtebinaopncclgabGreatDoorTPlain
import Derived.Test.YtebinaopncclgabGreatDoorCSq
namespace Go.Proofs.YtebinaopncclgabGreatDoor

structure Ins where
  n : Nat
  vans : Nat
  load : Int
  close : Int
  D : Nat → Nat → Int
  want : Nat → Int
  frm : Nat → Int
  till : Nat → Int
  stay : Nat → Int
structure InsOk (I : Ins) : Prop where
  close : 0 ≤ I.close
  load : 0 ≤ I.load
  want : ∀ s, 1 ≤ s → s ≤ I.n → 0 ≤ I.want s
  frm : ∀ s, 1 ≤ s → s ≤ I.n → 0 ≤ I.frm s ∧ I.frm s ≤ I.till s
  stay : ∀ s, 1 ≤ s → s ≤ I.n → 0 ≤ I.stay s
  D : ∀ a b, a ≤ I.n → b ≤ I.n → -1 ≤ I.D a b

/- a van that is at a site at a time: when it goes on -/
def arrQ (I : Ins) (t : Int) (s : Nat) : Option Int :=
  if s = 0 then (if t ≤ I.close then some t else none) else if (if t < I.frm s then I.frm s else t) ≤ I.till s then some ((if t < I.frm s then I.frm s else t) + I.stay s) else none
/- it leaves p at the time t and goes along the sites -/
def runQ (I : Ins) : Int → Nat → List Nat → Bool
  | _, _, [] => true
  | t, p, s :: l => match arrQ I (t + I.D p s) s with
    | none => false
    | some t' => runQ I t' s l
def chainT (I : Ins) : List Nat → Bool
  | [] => true
  | s :: l => match arrQ I 0 s with
    | none => false
    | some t => runQ I t s l
theorem runQ_cons (I : Ins) (t : Int) (p s : Nat) (l : List Nat) : runQ I t p (s :: l) = match arrQ I (t + I.D p s) s with | none => false | some t' => runQ I t' s l := rfl
theorem arr_mono {I : Ins} {t t' u : Int} {s : Nat} (h : t ≤ t') (ha : arrQ I t' s = some u) : ∃ v, arrQ I t s = some v ∧ v ≤ u := by
  unfold arrQ at ha ⊢
  by_cases h0 : s = 0
  · rw [if_pos h0] at ha ⊢
    by_cases h1 : t' ≤ I.close
    · rw [if_pos h1] at ha; cases ha; rw [if_pos (by omega)]; exact ⟨t, rfl, h⟩
    · rw [if_neg h1] at ha; cases ha
  · rw [if_neg h0] at ha ⊢
    by_cases h1 : (if t' < I.frm s then I.frm s else t') ≤ I.till s
    · rw [if_pos h1] at ha
      cases ha
      have h2 : (if t < I.frm s then I.frm s else t) ≤ (if t' < I.frm s then I.frm s else t') := by split <;> split <;> omega
      rw [if_pos (by omega)]
      exact ⟨_, rfl, by omega⟩
    · rw [if_neg h1] at ha; cases ha
theorem run_mono {I : Ins} : ∀ (l : List Nat) {t t' : Int} {p : Nat}, t ≤ t' → runQ I t' p l = true → runQ I t p l = true := by
  intro l
  induction l with
  | nil => intro _ _ _ _ _; rfl
  | cons s l ih =>
    intro t t' p h hr
    rw [runQ_cons] at hr ⊢
    cases ha : arrQ I (t' + I.D p s) s with
    | none => rw [ha] at hr; cases hr
    | some u =>
      rw [ha] at hr
      obtain ⟨v, h1, h2⟩ := arr_mono (t := t + I.D p s) (by omega) ha
      rw [h1]
      exact ih h2 hr
theorem run_pre {I : Ins} : ∀ (a b : List Nat) {t : Int} {p : Nat}, runQ I t p (a ++ b) = true → runQ I t p a = true := by
  intro a
  induction a with
  | nil => intro _ _ _ _; rfl
  | cons s a ih =>
    intro b t p h
    rw [List.cons_append, runQ_cons] at h
    rw [runQ_cons]
    cases ha : arrQ I (t + I.D p s) s with
    | none => rw [ha] at h; cases h
    | some u => rw [ha] at h; exact ih b h
/- a van that goes along a ++ [s] ++ b can begin at s -/
theorem run_mid {I : Ins} (hI : InsOk I) {s : Nat} (hs : 1 ≤ s ∧ s ≤ I.n) : ∀ (a b : List Nat) {t : Int} {p : Nat}, runQ I t p (a ++ s :: b) = true → chainT I (s :: b) = true := by
  intro a
  induction a with
  | nil =>
    intro b t p h
    rw [List.nil_append, runQ_cons] at h
    have hf := hI.frm s hs.1 hs.2
    have e : arrQ I 0 s = some (I.frm s + I.stay s) := by
      unfold arrQ
      rw [if_neg (by omega)]
      have e : (if (0 : Int) < I.frm s then I.frm s else 0) = I.frm s := by split <;> omega
      rw [e, if_pos hf.2]
    cases ha : arrQ I (t + I.D p s) s with
    | none => rw [ha] at h; cases h
    | some u =>
      rw [ha] at h
      have hu : I.frm s + I.stay s ≤ u := by
        unfold arrQ at ha
        rw [if_neg (by omega)] at ha
        by_cases h1 : (if t + I.D p s < I.frm s then I.frm s else t + I.D p s) ≤ I.till s
        · rw [if_pos h1] at ha
          have := Option.some.inj ha
          rw [← this]
          split <;> omega
        · rw [if_neg h1] at ha; cases ha
      show (match arrQ I 0 s with | none => false | some t => runQ I t s b) = true
      rw [e]
      exact run_mono b hu h
  | cons x a ih =>
    intro b t p h
    rw [List.cons_append, runQ_cons] at h
    cases ha : arrQ I (t + I.D p x) x with
    | none => rw [ha] at h; cases h
    | some u => rw [ha] at h; exact ih b h

/- the arcs of a route, and of routes -/
def arcsR (ρ : List Nat) : List (Nat × Nat) := (0 :: ρ).zip (ρ ++ [0])
def arcsQ (R : List (List Nat)) : List (Nat × Nat) := (R.map arcsR).flatten
def sumA (D : Nat → Nat → Int) (A : List (Nat × Nat)) : Int := (A.map fun p => D p.1 p.2).sum
def sumW (I : Ins) (l : List Nat) : Int := (l.map fun s => if s = 0 then 0 else I.want s).sum
structure PlanQ (I : Ins) (R : List (List Nat)) : Prop where
  few : R.length ≤ I.vans
  ne : ∀ ρ ∈ R, ρ ≠ []
  stops : ∀ s ∈ R.flatten, 1 ≤ s ∧ s ≤ I.n
  once : R.flatten.Nodup
  all : ∀ s, 1 ≤ s → s ≤ I.n → s ∈ R.flatten
  load : ∀ ρ ∈ R, sumW I ρ ≤ I.load
  way : ∀ p ∈ arcsQ R, I.D p.1 p.2 ≠ -1
  time : ∀ ρ ∈ R, runQ I 0 0 (ρ ++ [0]) = true
def costQ (I : Ins) (R : List (List Nat)) : Int := sumA I.D (arcsQ R)

theorem sumW_app (I : Ins) (a b : List Nat) : sumW I (a ++ b) = sumW I a + sumW I b := by simp [sumW]
theorem sumW_pos {I : Ins} (hI : InsOk I) : ∀ (l : List Nat), (∀ s ∈ l, s ≤ I.n) → 0 ≤ sumW I l := by
  intro l
  induction l with
  | nil => intro _; simp [sumW]
  | cons s l ih =>
    intro h
    have h1 := ih fun x hx => h x (by simp [hx])
    have h2 := h s (by simp)
    unfold sumW at h1 ⊢
    simp only [List.map_cons, List.sum_cons]
    by_cases h0 : s = 0
    · rw [if_pos h0]; omega
    · rw [if_neg h0]; have := hI.want s (by omega) h2; omega
/- pairs of neighbours -/
def nbr : List Nat → List (Nat × Nat)
  | [] => []
  | [_] => []
  | a :: b :: l => (a, b) :: nbr (b :: l)
theorem nbr_zip : ∀ (x : Nat) (l : List Nat), (x :: l).zip l = nbr (x :: l) := by
  intro x l
  induction l generalizing x with
  | nil => rfl
  | cons y l ih => show (x, y) :: (y :: l).zip l = _; rw [ih]; rfl
theorem arcs_nbr (ρ : List Nat) : arcsR ρ = nbr (0 :: (ρ ++ [0])) := by
  unfold arcsR
  rw [← nbr_zip]
  have key : ∀ (a b c : List Nat), a.length = b.length → (a ++ c).zip b = a.zip b := by
    intro a
    induction a with
    | nil => intro b c h; have : b = [] := List.length_eq_zero_iff.1 h.symm; subst this; simp
    | cons x a ih =>
      intro b c h
      cases b with
      | nil => simp at h
      | cons y b => simp only [List.cons_append, List.zip_cons_cons]; rw [ih b c (by simpa using h)]
  have := key (0 :: ρ) (ρ ++ [0]) [0] (by simp)
  simpa using this.symm
theorem nbr_app : ∀ (a b : List Nat) (x : Nat), nbr (a ++ x :: b) = nbr (a ++ [x]) ++ nbr (x :: b) := by
  intro a
  induction a with
  | nil => intro b x; simp [nbr]
  | cons y a ih =>
    intro b x
    cases a with
    | nil => simp [nbr]
    | cons z a =>
      show (y, z) :: nbr (z :: a ++ x :: b) = _
      rw [ih b x]; rfl
/- firsts and seconds of the arcs that are stops -/
theorem arcs_fst (ρ : List Nat) : (arcsR ρ).map (·.1) = 0 :: ρ := by
  unfold arcsR
  rw [List.map_fst_zip]; simp
theorem arcs_snd (ρ : List Nat) : (arcsR ρ).map (·.2) = ρ ++ [0] := by
  unfold arcsR
  rw [List.map_snd_zip]; simp
theorem filter_all {L : List Nat} (h : ∀ s ∈ L, s ≠ 0) : L.filter (fun s => decide (s ≠ 0)) = L := by
  rw [List.filter_eq_self]; intro a ha; simpa using h a ha
theorem arcsQ_fst {R : List (List Nat)} (h : ∀ s ∈ R.flatten, s ≠ 0) : ((arcsQ R).map (·.1)).filter (fun s => decide (s ≠ 0)) = R.flatten := by
  induction R with
  | nil => rfl
  | cons ρ R ih =>
    have h1 : ∀ s ∈ ρ, s ≠ 0 := fun s hs => h s (by simp [hs])
    have h2 : ∀ s ∈ R.flatten, s ≠ 0 := fun s hs => h s (by rw [List.flatten_cons]; exact List.mem_append_right _ hs)
    unfold arcsQ at ih ⊢
    rw [List.map_cons, List.flatten_cons, List.map_append, List.filter_append, ih h2, arcs_fst, List.flatten_cons]
    congr 1
    rw [List.filter_cons_of_neg (by simp), filter_all h1]
theorem arcsQ_snd {R : List (List Nat)} (h : ∀ s ∈ R.flatten, s ≠ 0) : ((arcsQ R).map (·.2)).filter (fun s => decide (s ≠ 0)) = R.flatten := by
  induction R with
  | nil => rfl
  | cons ρ R ih =>
    have h1 : ∀ s ∈ ρ, s ≠ 0 := fun s hs => h s (by simp [hs])
    have h2 : ∀ s ∈ R.flatten, s ≠ 0 := fun s hs => h s (by rw [List.flatten_cons]; exact List.mem_append_right _ hs)
    unfold arcsQ at ih ⊢
    rw [List.map_cons, List.flatten_cons, List.map_append, List.filter_append, ih h2, arcs_snd, List.flatten_cons]
    congr 1
    rw [List.filter_append, filter_all h1]; simp
theorem nodup_part {R : List (List Nat)} {ρ : List Nat} (h : R.flatten.Nodup) (hm : ρ ∈ R) : ρ.Nodup := by
  obtain ⟨A, B, rfl⟩ := List.append_of_mem hm
  rw [List.flatten_append, List.flatten_cons] at h
  exact (List.nodup_append.1 (List.nodup_append.1 h).2.1).1
theorem one_of {L : List (Nat × Nat)} (f : Nat × Nat → Nat) (hn : ((L.map f).filter fun s => decide (s ≠ 0)).Nodup) {p q : Nat × Nat} (hp : p ∈ L) (hq : q ∈ L) (h0 : f p ≠ 0) (he : f p = f q) : p = q := by
  induction L with
  | nil => cases hp
  | cons x L ih =>
    rw [List.map_cons] at hn
    by_cases hx : f x = 0
    · rw [List.filter_cons_of_neg (by simpa using hx)] at hn
      rcases List.mem_cons.1 hp with h | h
      · rw [h] at h0; exact absurd hx h0
      · rcases List.mem_cons.1 hq with h' | h'
        · rw [h'] at he; rw [he] at h0; exact absurd hx h0
        · exact ih hn h h'
    · rw [List.filter_cons_of_pos (by simpa using hx), List.nodup_cons] at hn
      have hm : ∀ y ∈ L, f y ≠ f x := fun y hy e => hn.1 (List.mem_filter.2 ⟨List.mem_map.2 ⟨y, hy, e⟩, by simpa using hx⟩)
      rcases List.mem_cons.1 hp with h | h
      · rcases List.mem_cons.1 hq with h' | h'
        · rw [h, h']
        · rw [h] at he; exact absurd he.symm (hm q h')
      · rcases List.mem_cons.1 hq with h' | h'
        · rw [h'] at he; exact absurd he (hm p h)
        · exact ih hn.2 h h'
theorem PlanQ.nz {I : Ins} {R : List (List Nat)} (h : PlanQ I R) : ∀ s ∈ R.flatten, s ≠ 0 := fun s hs => by have := h.stops s hs; omega
theorem PlanQ.out_one {I : Ins} {R : List (List Nat)} (h : PlanQ I R) {a b c : Nat} (ha : a ≠ 0) (h1 : (a, b) ∈ arcsQ R) (h2 : (a, c) ∈ arcsQ R) : b = c := by
  have := one_of (L := arcsQ R) (·.1) (by rw [arcsQ_fst h.nz]; exact h.once) h1 h2 ha rfl
  cases this; rfl
theorem PlanQ.in_one {I : Ins} {R : List (List Nat)} (h : PlanQ I R) {a b c : Nat} (hb : b ≠ 0) (h1 : (a, b) ∈ arcsQ R) (h2 : (c, b) ∈ arcsQ R) : a = c := by
  have := one_of (L := arcsQ R) (·.2) (by rw [arcsQ_snd h.nz]; exact h.once) h1 h2 hb rfl
  cases this; rfl
theorem arcs_range {I : Ins} {R : List (List Nat)} (h : PlanQ I R) : ∀ p ∈ arcsQ R, p.1 ≤ I.n ∧ p.2 ≤ I.n := by
  intro p hp
  constructor
  · by_cases h0 : p.1 = 0
    · omega
    · have : p.1 ∈ R.flatten := by
        rw [← arcsQ_fst h.nz]; exact List.mem_filter.2 ⟨List.mem_map.2 ⟨p, hp, rfl⟩, by simpa using h0⟩
      exact (h.stops _ this).2
  · by_cases h0 : p.2 = 0
    · omega
    · have : p.2 ∈ R.flatten := by
        rw [← arcsQ_snd h.nz]; exact List.mem_filter.2 ⟨List.mem_map.2 ⟨p, hp, rfl⟩, by simpa using h0⟩
      exact (h.stops _ this).2
theorem nbr_mem : ∀ (l : List Nat) {a b : Nat}, (a, b) ∈ nbr l → ∃ u v, l = u ++ a :: b :: v := by
  intro l
  induction l with
  | nil => intro a b h; cases h
  | cons x l ih =>
    intro a b h
    cases l with
    | nil => cases h
    | cons y l =>
      rcases List.mem_cons.1 h with e | e
      · cases e; exact ⟨[], l, rfl⟩
      · obtain ⟨u, v, h1⟩ := ih e; exact ⟨x :: u, v, by rw [h1]; rfl⟩
theorem arc_ne {I : Ins} {R : List (List Nat)} (h : PlanQ I R) : ∀ p ∈ arcsQ R, p.1 ≠ p.2 := by
  intro p hp e
  obtain ⟨L, hL, hp'⟩ := List.mem_flatten.1 hp
  obtain ⟨ρ, hρ, rfl⟩ := List.mem_map.1 hL
  rw [arcs_nbr] at hp'
  obtain ⟨u, v, huv⟩ := nbr_mem _ (a := p.1) (b := p.2) hp'
  have hn : ρ.Nodup := nodup_part h.once hρ
  have hz : ∀ s ∈ ρ, s ≠ 0 := fun s hs => h.nz s (List.mem_flatten.2 ⟨ρ, hρ, hs⟩)
  rw [← e] at huv
  cases u with
  | nil =>
    simp only [List.nil_append, List.cons.injEq] at huv
    obtain ⟨h1, h2⟩ := huv
    cases ρ with
    | nil => exact h.ne [] hρ rfl
    | cons s ρ => simp only [List.cons_append, List.cons.injEq] at h2; exact hz s (by simp) (by rw [h2.1, ← h1])
  | cons x u =>
    simp only [List.cons_append, List.cons.injEq] at huv
    have h2 := huv.2
    by_cases hv : v = []
    · subst hv
      have h3 : ρ ++ [0] = (u ++ [p.1]) ++ [p.1] := by rw [h2]; simp
      have h4 := List.append_inj' h3 rfl
      have h5 : p.1 = 0 := by simpa using h4.2.symm
      exact hz p.1 (by rw [h4.1]; simp) h5
    · obtain ⟨v', y, rfl⟩ : ∃ v' y, v = v' ++ [y] := ⟨v.dropLast, v.getLast hv, (List.dropLast_concat_getLast hv).symm⟩
      have h3 : ρ ++ [0] = (u ++ p.1 :: p.1 :: v') ++ [y] := by rw [h2]; simp
      have h4 := (List.append_inj' h3 rfl).1
      rw [h4] at hn
      have := (List.nodup_append.1 hn).2.1
      simp at this

/- chains along a plan -/
def twiceQ (c : List Nat) : Prop := ¬ (c.filter fun s => decide (s ≠ 0)).Nodup
structure BlockedQ (I : Ins) (c : List Nat) : Prop where
  why : twiceQ c ∨ I.load < sumW I c ∨ (∃ p ∈ nbr c, I.D p.1 p.2 = -1) ∨ chainT I c = false
/- the sites behind a stop, as far as a chain goes -/
theorem chain_sfx {I : Ins} {R : List (List Nat)} (h : PlanQ I R) : ∀ (c : List Nat) (s : Nat) (pre post : List Nat), pre ++ s :: post ∈ R → (∀ p ∈ nbr (s :: c), p ∈ arcsQ R) → (∀ u v, c = u ++ 0 :: v → v = []) → ∃ rest, post ++ [0] = c ++ rest := by
  intro c
  induction c with
  | nil => intro s pre post _ _ _; exact ⟨_, rfl⟩
  | cons y c ih =>
    intro s pre post hR hA hz
    have h1 : (s, y) ∈ arcsQ R := hA _ (by simp [nbr])
    have hs0 : s ≠ 0 := h.nz s (List.mem_flatten.2 ⟨_, hR, by simp⟩)
    have hmem : ∀ q ∈ arcsR (pre ++ s :: post), q ∈ arcsQ R := fun q hq => List.mem_flatten.2 ⟨_, List.mem_map.2 ⟨_, hR, rfl⟩, hq⟩
    have hnb : arcsR (pre ++ s :: post) = nbr ((0 :: pre) ++ s :: (post ++ [0])) := by rw [arcs_nbr]; simp
    cases hp : post with
    | nil =>
      rw [hp] at hmem hnb
      have h2 : (s, 0) ∈ arcsQ R := hmem _ (by rw [hnb, nbr_app]; exact List.mem_append_right _ (by simp [nbr]))
      have h3 := h.out_one hs0 h1 h2
      have : c = [] := hz [] c (by rw [h3]; rfl)
      exact ⟨[], by rw [h3, this]; rfl⟩
    | cons z post' =>
      rw [hp] at hmem hnb
      have h2 : (s, z) ∈ arcsQ R := hmem _ (by rw [hnb, nbr_app]; exact List.mem_append_right _ (by simp [nbr]))
      have h3 := h.out_one hs0 h1 h2
      rw [hp] at hR
      obtain ⟨rest, hr⟩ := ih y (pre ++ [s]) post' (by rw [h3]; simpa using hR) (fun p hp => hA p (by simp [nbr, hp])) (fun u v e => hz (y :: u) v (by rw [e]; rfl))
      exact ⟨rest, by rw [← h3, List.cons_append, List.cons_append, hr]⟩
theorem nbr_sub : ∀ (a c b : List Nat) {p : Nat × Nat}, p ∈ nbr c → p ∈ nbr (a ++ c ++ b) := by
  intro a c b p hp
  obtain ⟨u, v, h⟩ := nbr_mem c (a := p.1) (b := p.2) hp
  have e : a ++ c ++ b = (a ++ u) ++ p.1 :: (p.2 :: (v ++ b)) := by rw [h]; simp
  rw [e, nbr_app]
  exact List.mem_append_right _ (by simp [nbr])
/- a chain that is a piece of a route with the depot at both ends can be gone along -/
theorem piece_free {I : Ins} (hI : InsOk I) {R : List (List Nat)} (h : PlanQ I R) {ρ pre c post : List Nat} (hR : ρ ∈ R) (hc : c ≠ []) (he : 0 :: (ρ ++ [0]) = pre ++ c ++ post) : ¬ BlockedQ I c := by
  intro hb
  have hn : ρ.Nodup := nodup_part h.once hR
  have hz : ∀ s ∈ ρ, 1 ≤ s ∧ s ≤ I.n := fun s hs => h.stops s (List.mem_flatten.2 ⟨ρ, hR, hs⟩)
  have hf : (0 :: (ρ ++ [0])).filter (fun s => decide (s ≠ 0)) = ρ := by
    rw [List.filter_cons_of_neg (by simp), List.filter_append, filter_all (fun s hs => by have := hz s hs; omega)]; simp
  have hall : ∀ s ∈ 0 :: (ρ ++ [0]), s ≤ I.n := fun s hs => by
    rcases List.mem_cons.1 hs with e | e
    · omega
    · rcases List.mem_append.1 e with e | e
      · exact (hz s e).2
      · simp at e; omega
  rcases hb.why with h1 | h1 | ⟨p, hp, h1⟩ | h1
  · apply h1
    rw [he, List.filter_append, List.filter_append] at hf
    rw [← hf] at hn
    exact (List.nodup_append.1 (List.nodup_append.1 hn).1).2.1
  · have e1 : sumW I (0 :: (ρ ++ [0])) = sumW I ρ := by
      have : 0 :: (ρ ++ [0]) = [0] ++ ρ ++ [0] := by simp
      rw [this, sumW_app, sumW_app]; simp [sumW]
    rw [he, sumW_app, sumW_app] at e1
    have h2 := h.load ρ hR
    have h3 := sumW_pos hI pre (fun s hs => hall s (by rw [he]; simp [hs]))
    have h4 := sumW_pos hI post (fun s hs => hall s (by rw [he]; simp [hs]))
    omega
  · have : p ∈ arcsQ R := List.mem_flatten.2 ⟨_, List.mem_map.2 ⟨ρ, hR, rfl⟩, by rw [arcs_nbr, he]; exact nbr_sub pre c post hp⟩
    exact h.way p this h1
  · have ht := h.time ρ hR
    cases c with
    | nil => exact hc rfl
    | cons s c =>
      have key : chainT I (s :: (c ++ post)) = true := by
        cases pre with
        | nil =>
          simp only [List.nil_append, List.cons_append, List.cons.injEq] at he
          have e : arrQ I 0 s = some 0 := by
            unfold arrQ
            rw [if_pos he.1.symm, if_pos hI.close]
          show (match arrQ I 0 s with | none => false | some t => runQ I t s (c ++ post)) = true
          rw [e, ← he.1, ← he.2]; exact ht
        | cons x pre =>
          simp only [List.cons_append, List.cons.injEq] at he
          by_cases hs : s = 0
          · have e : arrQ I 0 s = some 0 := by
              unfold arrQ
              rw [if_pos hs, if_pos hI.close]
            have hcp : c ++ post = [] := by
              have h2 : ρ ++ [0] = pre ++ s :: (c ++ post) := by rw [he.2]; simp
              apply Classical.byContradiction
              intro hne
              obtain ⟨m, y, hy⟩ : ∃ m y, c ++ post = m ++ [y] := ⟨_, _, (List.dropLast_concat_getLast hne).symm⟩
              rw [hy] at h2
              have h3 : ρ ++ [0] = (pre ++ s :: m) ++ [y] := by rw [h2]; simp
              have h4 := (List.append_inj' h3 rfl).1
              have := hz s (by rw [h4]; simp)
              omega
            show (match arrQ I 0 s with | none => false | some t => runQ I t s (c ++ post)) = true
            rw [e, hcp]; rfl
          · have hsm : s ∈ ρ ++ [0] := by rw [he.2]; simp
            have hs2 : 1 ≤ s ∧ s ≤ I.n := by
              rcases List.mem_append.1 hsm with e | e
              · exact hz s e
              · simp at e; exact absurd e hs
            rw [he.2] at ht
            exact run_mid hI hs2 pre (c ++ post) (by simpa using ht)
      have : chainT I (s :: c) = true := by
        revert key
        show (match arrQ I 0 s with | none => false | some t => runQ I t s (c ++ post)) = true → (match arrQ I 0 s with | none => false | some t => runQ I t s c) = true
        cases arrQ I 0 s with
        | none => intro h; exact h
        | some t => intro h; exact run_pre c post h
      rw [this] at h1; cases h1
/- a chain whose arcs a plan goes can be gone along -/
theorem chain_free {I : Ins} (hI : InsOk I) {R : List (List Nat)} (h : PlanQ I R) {c : List Nat} (hc : c ≠ []) (hr : ∀ s ∈ c, s ≤ I.n) (hA : ∀ p ∈ nbr c, p ∈ arcsQ R) (hz : ∀ u v, c = u ++ 0 :: v → u = [] ∨ v = []) : ¬ BlockedQ I c := by
  cases c with
  | nil => exact absurd rfl hc
  | cons s c =>
    by_cases hs : s = 0
    · subst hs
      cases c with
      | nil =>
        intro hb
        rcases hb.why with h1 | h1 | ⟨p, hp, _⟩ | h1
        · exact h1 (by simp)
        · simp [sumW] at h1; have := hI.load; omega
        · cases hp
        · revert h1
          show (match arrQ I 0 0 with | none => false | some t => runQ I t 0 []) = false → False
          have e : arrQ I 0 0 = some 0 := by unfold arrQ; rw [if_pos rfl, if_pos hI.close]
          rw [e]; intro h; cases h
      | cons y c =>
        have h1 : (0, y) ∈ arcsQ R := hA _ (by simp [nbr])
        obtain ⟨L, hL, hp'⟩ := List.mem_flatten.1 h1
        obtain ⟨ρ, hρ, rfl⟩ := List.mem_map.1 hL
        have hz' : ∀ t ∈ ρ, t ≠ 0 := fun t ht => h.nz t (List.mem_flatten.2 ⟨ρ, hρ, ht⟩)
        obtain ⟨z, ρ', rfl⟩ : ∃ z ρ', ρ = z :: ρ' := by
          cases ρ with
          | nil => exact absurd rfl (h.ne [] hρ)
          | cons z ρ' => exact ⟨z, ρ', rfl⟩
        have hy : y = z := by
          rw [arcs_nbr] at hp'
          have e : nbr (0 :: (z :: ρ' ++ [0])) = (0, z) :: nbr (z :: (ρ' ++ [0])) := rfl
          rw [e] at hp'
          rcases List.mem_cons.1 hp' with e | e
          · cases e; rfl
          · obtain ⟨u, v, huv⟩ := nbr_mem _ e
            exfalso
            have h3 : (z :: ρ') ++ [0] = u ++ 0 :: y :: v := by rw [List.cons_append]; exact huv
            have hne : y :: v ≠ [] := by simp
            obtain ⟨m, q, hq⟩ : ∃ m q, y :: v = m ++ [q] := ⟨_, _, (List.dropLast_concat_getLast hne).symm⟩
            rw [hq] at h3
            have h4 : (z :: ρ') ++ [0] = (u ++ 0 :: m) ++ [q] := by rw [h3]; simp
            have h5 := (List.append_inj' h4 rfl).1
            exact hz' 0 (by rw [h5]; simp) rfl
        subst hy
        obtain ⟨rest, hr2⟩ := chain_sfx h c y [] ρ' (by simpa using hρ) (fun p hp => hA p (by simp [nbr, hp])) (fun u v e => by
          rcases hz (0 :: y :: u) v (by rw [e]; rfl) with h | h
          · cases h
          · exact h)
        exact piece_free hI h (pre := []) (post := rest) hρ (by simp) (by simp [hr2])
    · have hs2 : 1 ≤ s ∧ s ≤ I.n := ⟨by omega, hr s (by simp)⟩
      obtain ⟨ρ, hρ, hm⟩ := List.mem_flatten.1 (h.all s hs2.1 hs2.2)
      obtain ⟨pre, post, rfl⟩ := List.append_of_mem hm
      obtain ⟨rest, hr2⟩ := chain_sfx h c s pre post hρ hA (fun u v e => by
        rcases hz (s :: u) v (by rw [e]; rfl) with h | h
        · cases h
        · exact h)
      exact piece_free hI h (pre := 0 :: pre) (post := rest) hρ (by simp) (by simp [hr2])
end Go.Proofs.YtebinaopncclgabGreatDoor
namespace Go.Proofs.YtebinaopncclgabGreatDoor

/- rows and columns that are paired -/
structure Pick (N : Nat) (L : List (Nat × Nat)) : Prop where
  f1 : (L.map (·.1)).Nodup
  f2 : ∀ p ∈ L, p.1 < N ∧ p.2 < N
  f3 : L.length = N
  s1 : (L.map (·.2)).Nodup
theorem pick_sum {N : Nat} {L : List (Nat × Nat)} (h : Pick N L) (u v : Nat → Int) : (L.map fun p => u p.1 + v p.2).sum = sumL u (List.range N) + sumL v (List.range N) := by
  have e1 : sumL u (L.map (·.1)) = sumL u (List.range N) := sumL_all u N _ h.f1 (fun x hx => by obtain ⟨p, hp, rfl⟩ := List.mem_map.1 hx; exact (h.f2 p hp).1) (by simp [h.f3])
  have e2 : sumL v (L.map (·.2)) = sumL v (List.range N) := sumL_all v N _ h.s1 (fun x hx => by obtain ⟨p, hp, rfl⟩ := List.mem_map.1 hx; exact (h.f2 p hp).2) (by simp [h.f3])
  rw [← e1, ← e2]
  clear e1 e2 h
  induction L with
  | nil => simp [sumL]
  | cons p L ih => simp only [List.map_cons, List.sum_cons, sumL, ih]; omega
theorem sum_le_of {α : Type} (f g : α → Int) : ∀ (L : List α), (∀ x ∈ L, f x ≤ g x) → (L.map f).sum ≤ (L.map g).sum := by
  intro L
  induction L with
  | nil => intro _; simp
  | cons x L ih =>
    intro h
    have h1 := ih fun y hy => h y (by simp [hy])
    have h2 := h x (by simp)
    simp only [List.map_cons, List.sum_cons]; omega
/- numbers of rows and columns bound what any choice costs -/
theorem pick_dual {N : Nat} {C : Nat → Nat → Int} {L : List (Nat × Nat)} (h : Pick N L) (ho : ∀ p ∈ L, C p.1 p.2 ≠ -1) {u v : Nat → Int} (hu : ∀ i j, i < N → j < N → C i j ≠ -1 → u i + v j ≤ C i j) : sumL u (List.range N) + sumL v (List.range N) ≤ (L.map fun p => C p.1 p.2).sum := by
  rw [← pick_sum h u v]
  exact sum_le_of _ _ L fun p hp => hu p.1 p.2 (h.f2 p hp).1 (h.f2 p hp).2 (ho p hp)
/- rows never have too few columns -/
theorem pick_hall {N : Nat} {C : Nat → Nat → Int} {L : List (Nat × Nat)} (h : Pick N L) (ho : ∀ p ∈ L, C p.1 p.2 ≠ -1) (rows cols : List Nat) (hr : rows.Nodup) (hlt : ∀ r ∈ rows, r < N) (hc : ∀ r ∈ rows, ∀ j, j < N → C r j ≠ -1 → j ∈ cols) : rows.length ≤ cols.length := by
  have hall : ∀ r, r < N → ∃ p ∈ L, p.1 = r := fun r hr => by
    apply Classical.byContradiction
    intro hno
    have h1 := nodup_sub (r :: L.map (·.1)) (List.range N) (List.nodup_cons.2 ⟨fun hm => by obtain ⟨p, hp, e⟩ := List.mem_map.1 hm; exact hno ⟨p, hp, e⟩, h.f1⟩) (fun x hx => by
      rcases List.mem_cons.1 hx with e | e
      · rw [e]; simpa using hr
      · obtain ⟨p, hp, rfl⟩ := List.mem_map.1 e; simpa using (h.f2 p hp).1)
    simp [h.f3] at h1
    omega
  let M := L.filter fun p => decide (p.1 ∈ rows)
  have h1 : rows.length ≤ (M.map (·.1)).length := nodup_sub rows _ hr fun r hm => by
    obtain ⟨p, hp, e⟩ := hall r (hlt r hm)
    exact List.mem_map.2 ⟨p, List.mem_filter.2 ⟨hp, by simpa [e] using hm⟩, e⟩
  have h2 : (M.map (·.2)).length ≤ cols.length := nodup_sub _ cols ((List.Sublist.map _ List.filter_sublist).nodup h.s1) fun j hj => by
    obtain ⟨p, hp, rfl⟩ := List.mem_map.1 hj
    obtain ⟨hp1, hp2⟩ := List.mem_filter.1 hp
    exact hc p.1 (by simpa using hp2) p.2 (h.f2 p hp1).2 (ho p hp1)
  simp at h1 h2; omega

/- the pairs of a plan -/
def pairR (n k : Nat) (ρ : List Nat) : List (Nat × Nat) := ((n + k) :: ρ.map (· - 1)).zip (ρ.map (· - 1) ++ [n + k])
def pairsF (n : Nat) : Nat → List (List Nat) → List (Nat × Nat)
  | _, [] => []
  | k, ρ :: R => pairR n k ρ ++ pairsF n (k + 1) R
def idleF (n m vans : Nat) : List (Nat × Nat) := (List.range (vans - m)).map fun i => (n + m + i, n + m + i)
def pairsQ (I : Ins) (R : List (List Nat)) : List (Nat × Nat) := pairsF I.n 0 R ++ idleF I.n R.length I.vans
theorem pairR_fst (n k : Nat) (ρ : List Nat) : (pairR n k ρ).map (·.1) = (n + k) :: ρ.map (· - 1) := by unfold pairR; rw [List.map_fst_zip]; simp
theorem pairR_snd (n k : Nat) (ρ : List Nat) : (pairR n k ρ).map (·.2) = ρ.map (· - 1) ++ [n + k] := by unfold pairR; rw [List.map_snd_zip]; simp
theorem pairsF_fst (n : Nat) : ∀ (R : List (List Nat)) (k : Nat), ((pairsF n k R).map (·.1)).Perm (R.flatten.map (· - 1) ++ (List.range R.length).map fun i => n + k + i) := by
  intro R
  induction R with
  | nil => intro k; simp [pairsF]
  | cons ρ R ih =>
    intro k
    unfold pairsF
    rw [List.map_append, pairR_fst, List.flatten_cons, List.map_append]
    refine (List.Perm.append (List.Perm.refl _) (ih (k + 1))).trans ?_
    have e : (List.range (ρ :: R).length).map (fun i => n + k + i) = (n + k) :: (List.range R.length).map fun i => n + (k + 1) + i := by
      rw [List.length_cons, List.range_succ_eq_map, List.map_cons, List.map_map]
      congr 1
      apply List.map_congr_left
      intro i _
      simp only [Function.comp]; omega
    rw [e]
    show List.Perm ((n + k) :: (ρ.map (· - 1) ++ (R.flatten.map (· - 1) ++ _))) _
    rw [← List.append_assoc]
    exact List.perm_middle.symm
theorem pairsF_perm (n : Nat) : ∀ (R : List (List Nat)) (k : Nat), ((pairsF n k R).map (·.2)).Perm ((pairsF n k R).map (·.1)) := by
  intro R
  induction R with
  | nil => intro k; exact List.Perm.refl _
  | cons ρ R ih =>
    intro k
    unfold pairsF
    rw [List.map_append, List.map_append, pairR_fst, pairR_snd]
    exact List.Perm.append (List.perm_append_singleton _ _) (ih (k + 1))
theorem pairsQ_fst (I : Ins) {R : List (List Nat)} (hf : R.length ≤ I.vans) : ((pairsQ I R).map (·.1)).Perm (R.flatten.map (· - 1) ++ (List.range I.vans).map fun i => I.n + i) := by
  unfold pairsQ idleF
  rw [List.map_append, List.map_map]
  refine (List.Perm.append (pairsF_fst I.n R 0) (List.Perm.refl _)).trans ?_
  rw [List.append_assoc]
  refine List.Perm.append (List.Perm.refl _) ?_
  have e : (List.range I.vans).map (fun i => I.n + i) = (List.range R.length).map (fun i => I.n + 0 + i) ++ (List.range (I.vans - R.length)).map ((fun p : Nat × Nat => p.1) ∘ fun i => (I.n + R.length + i, I.n + R.length + i)) := by
    have h1 : I.vans = R.length + (I.vans - R.length) := by omega
    conv => lhs; rw [h1, List.range_add, List.map_append, List.map_map]
    congr 1
    apply List.map_congr_left
    intro i _
    simp only [Function.comp]; omega
  rw [e]
theorem pairsQ_perm (I : Ins) (R : List (List Nat)) : ((pairsQ I R).map (·.2)).Perm ((pairsQ I R).map (·.1)) := by
  unfold pairsQ idleF
  rw [List.map_append, List.map_append, List.map_map, List.map_map]
  exact List.Perm.append (pairsF_perm I.n R 0) (List.Perm.refl _)
theorem PlanQ.count {I : Ins} {R : List (List Nat)} (h : PlanQ I R) : R.flatten.length = I.n := by
  have h1 := nodup_sub R.flatten ((List.range I.n).map (· + 1)) h.once fun s hs => by
    have := h.stops s hs
    exact List.mem_map.2 ⟨s - 1, by simp; omega, by omega⟩
  have hnd : ((List.range I.n).map (· + 1)).Nodup := by
    rw [List.nodup_iff_pairwise_ne, List.pairwise_map]
    exact List.Pairwise.imp (fun h => by omega) (List.nodup_iff_pairwise_ne.1 List.nodup_range)
  have h2 := nodup_sub ((List.range I.n).map (· + 1)) R.flatten hnd fun s hs => by
    obtain ⟨i, hi, rfl⟩ := List.mem_map.1 hs
    exact h.all _ (by omega) (by simp at hi; omega)
  rw [List.length_map, List.length_range] at h1 h2
  omega
theorem nodup_map_on {L : List Nat} {f : Nat → Nat} (h : L.Nodup) (hf : ∀ a ∈ L, ∀ b ∈ L, f a = f b → a = b) : (L.map f).Nodup := by
  rw [List.nodup_iff_pairwise_ne, List.pairwise_map]
  exact List.Pairwise.imp_of_mem (fun ha hb hne e => hne (hf _ ha _ hb e)) (List.nodup_iff_pairwise_ne.1 h)
theorem plan_pick {I : Ins} {R : List (List Nat)} (h : PlanQ I R) : Pick (I.n + I.vans) (pairsQ I R) := by
  have hp := pairsQ_fst I h.few
  have hn : (R.flatten.map (· - 1) ++ (List.range I.vans).map fun i => I.n + i).Nodup := by
    rw [List.nodup_append]
    refine ⟨nodup_map_on h.once fun a ha b hb e => ?_, nodup_map_on List.nodup_range fun a _ b _ e => by omega, fun a ha b hb e => ?_⟩
    · have := h.stops a ha; have := h.stops b hb; omega
    · obtain ⟨s, hs, rfl⟩ := List.mem_map.1 ha
      obtain ⟨i, _, rfl⟩ := List.mem_map.1 hb
      have := h.stops s hs; omega
  have hm : ∀ x ∈ R.flatten.map (· - 1) ++ (List.range I.vans).map fun i => I.n + i, x < I.n + I.vans := fun x hx => by
    rcases List.mem_append.1 hx with e | e
    · obtain ⟨s, hs, rfl⟩ := List.mem_map.1 e; have := h.stops s hs; omega
    · obtain ⟨i, hi, rfl⟩ := List.mem_map.1 e; simp at hi; omega
  have hl := hp.length_eq
  rw [List.length_map, List.length_append, List.length_map, List.length_map, List.length_range, h.count] at hl
  refine ⟨hp.nodup_iff.2 hn, fun p hpm => ⟨hm _ (hp.mem_iff.1 (List.mem_map.2 ⟨p, hpm, rfl⟩)), hm _ (hp.mem_iff.1 ((pairsQ_perm I R).mem_iff.1 (List.mem_map.2 ⟨p, hpm, rfl⟩)))⟩, hl, (pairsQ_perm I R).nodup_iff.2 (hp.nodup_iff.2 hn)⟩

/- the arcs that a plan goes, and what it is asked to -/
def Along (n : Nat) (T : Nat → Nat → Int) (R : List (List Nat)) : Prop := ∀ a b, a ≤ n → b ≤ n → (T a b = 1 → (a, b) ∈ arcsQ R) ∧ (T a b = 2 → (a, b) ∉ arcsQ R)
theorem feS_no {n : Nat} {T : Nat → Nat → Int} {a b : Nat} (h : ∀ c, c ≤ n → ¬ feAt T a b c) : feS n T a b = false := by
  unfold feS
  rw [List.any_eq_false]
  intro c hc
  have := h c (by simp at hc; omega)
  simpa using this
theorem cell_along {I : Ins} {R : List (List Nat)} {T : Nat → Nat → Int} (h : PlanQ I R) (ha : Along I.n T R) {a b : Nat} (hp : (a, b) ∈ arcsQ R) : cellS I.n T I.D a b = I.D a b := by
  have hr := arcs_range h _ hp
  have hne := arc_ne h _ hp
  simp only at hr hne
  unfold cellS
  rw [if_neg (by omega), if_neg]
  rintro (e | e | e)
  · exact hne e
  · exact (ha a b hr.1 hr.2).2 e hp
  · rw [feS_no] at e
    · cases e
    · rintro c hc (⟨h1, h2, h3⟩ | ⟨h1, h2, h3⟩)
      · exact h2 (h.out_one h1 ((ha a c hr.1 hc).1 h3) hp)
      · exact h2 (h.in_one h1 ((ha c b hc hr.2).1 h3) hp)
def cellQ (I : Ins) (T : Nat → Nat → Int) (i j : Nat) : Int := cellS I.n T I.D (lineN I.n i) (lineN I.n j)
theorem line_van (n k : Nat) : lineN n (n + k) = 0 := by unfold lineN; rw [if_neg (by omega)]
theorem line_stop {n s : Nat} (h : 1 ≤ s ∧ s ≤ n) : lineN n (s - 1) = s := by unfold lineN; rw [if_pos (by omega)]; omega
theorem pairR_sites {n k : Nat} {ρ : List Nat} (h : ∀ s ∈ ρ, 1 ≤ s ∧ s ≤ n) : (pairR n k ρ).map (fun p => (lineN n p.1, lineN n p.2)) = arcsR ρ := by
  have e : ρ.map (fun s => lineN n (s - 1)) = ρ := by
    have : ρ.map (fun s => lineN n (s - 1)) = ρ.map id := List.map_congr_left fun s hs => line_stop (h s hs)
    rw [this, List.map_id]
  unfold pairR arcsR
  have h1 : ((n + k) :: ρ.map (· - 1)).map (lineN n) = 0 :: ρ := by
    rw [List.map_cons, line_van, List.map_map]; congr 1
  have h2 : (ρ.map (· - 1) ++ [n + k]).map (lineN n) = ρ ++ [0] := by
    rw [List.map_append, List.map_map]; congr 1
    simp [line_van]
  rw [← h1, ← h2, List.zip_map]
  rfl
theorem pairsF_sites {n : Nat} : ∀ (R : List (List Nat)) (k : Nat), (∀ s ∈ R.flatten, 1 ≤ s ∧ s ≤ n) → (pairsF n k R).map (fun p => (lineN n p.1, lineN n p.2)) = arcsQ R := by
  intro R
  induction R with
  | nil => intro k _; rfl
  | cons ρ R ih =>
    intro k h
    unfold pairsF arcsQ
    rw [List.map_append, pairR_sites fun s hs => h s (by simp [hs]), ih (k + 1) fun s hs => h s (by rw [List.flatten_cons]; exact List.mem_append_right _ hs)]
    simp [arcsQ]
theorem plan_cells {I : Ins} {R : List (List Nat)} {T : Nat → Nat → Int} (h : PlanQ I R) (ha : Along I.n T R) : (∀ p ∈ pairsQ I R, cellQ I T p.1 p.2 ≠ -1) ∧ ((pairsQ I R).map fun p => cellQ I T p.1 p.2).sum = costQ I R := by
  have hs := pairsF_sites (n := I.n) R 0 h.stops
  have hz : ∀ p ∈ idleF I.n R.length I.vans, cellQ I T p.1 p.2 = 0 := fun p hp => by
    obtain ⟨i, _, rfl⟩ := List.mem_map.1 hp
    unfold cellQ cellS
    simp only [Nat.add_assoc, line_van]; simp
  have hc : ∀ p ∈ pairsF I.n 0 R, cellQ I T p.1 p.2 = I.D (lineN I.n p.1) (lineN I.n p.2) ∧ (lineN I.n p.1, lineN I.n p.2) ∈ arcsQ R := fun p hp => by
    have hm : (lineN I.n p.1, lineN I.n p.2) ∈ arcsQ R := by rw [← hs]; exact List.mem_map.2 ⟨p, hp, rfl⟩
    exact ⟨cell_along h ha hm, hm⟩
  constructor
  · intro p hp
    rcases List.mem_append.1 hp with e | e
    · rw [(hc p e).1]; exact h.way _ (hc p e).2
    · rw [hz p e]; omega
  · unfold pairsQ costQ sumA
    rw [List.map_append, List.sum_append_int, ← hs, List.map_map]
    have e1 : (pairsF I.n 0 R).map (fun p => cellQ I T p.1 p.2) = (pairsF I.n 0 R).map ((fun p : Nat × Nat => I.D p.1 p.2) ∘ fun p => (lineN I.n p.1, lineN I.n p.2)) := List.map_congr_left fun p hp => (hc p hp).1
    have e2 : ((idleF I.n R.length I.vans).map fun p => cellQ I T p.1 p.2).sum = 0 := by
      have : ∀ L : List (Nat × Nat), (∀ p ∈ L, cellQ I T p.1 p.2 = 0) → (L.map fun p => cellQ I T p.1 p.2).sum = 0 := by
        intro L
        induction L with
        | nil => intro _; rfl
        | cons p L ih => intro h; simp only [List.map_cons, List.sum_cons]; rw [h p (by simp), ih fun q hq => h q (by simp [hq])]; rfl
      exact this _ hz
    rw [e1, e2]; omega
/- no plan is below duals; rows of a plan have columns -/
theorem plan_dual {I : Ins} {R : List (List Nat)} {T : Nat → Nat → Int} (h : PlanQ I R) (ha : Along I.n T R) {u v : Nat → Int} (hu : ∀ i j, i < I.n + I.vans → j < I.n + I.vans → cellQ I T i j ≠ -1 → u i + v j ≤ cellQ I T i j) : sumL u (List.range (I.n + I.vans)) + sumL v (List.range (I.n + I.vans)) ≤ costQ I R := by
  rw [← (plan_cells h ha).2]
  exact pick_dual (plan_pick h) (plan_cells h ha).1 hu
/- a node holds, where the arcs are forced and barred so -/
def risingZ (l : List Int) : Prop := ∀ i, i + 1 < l.length → l.getD i 0 < l.getD (i + 1) 0
def hitsZ (N : Nat) (C : Nat → Nat → Int) (l : List Int) : Nat := ((List.range N).filter fun j => l.any fun r => decide (C r.toNat j ≠ -1)).length
def endsZ (l : List Int) : Prop := ∀ i, i + 2 < l.length → l.getD (i + 1) 0 ≠ 0
structure DualsZ (I : Ins) (T : Nat → Nat → Int) (c : Int) (l : List Int) : Prop where
  len : l.length = 2 * (I.n + I.vans)
  sum : c ≤ l.sum
  under : ∀ i j, i < I.n + I.vans → j < I.n + I.vans → cellQ I T i j ≠ -1 → l.getD i 0 + l.getD (I.n + I.vans + j) 0 ≤ cellQ I T i j
structure HallZ (I : Ins) (T : Nat → Nat → Int) (l : List Int) : Prop where
  rows : ∀ x ∈ l, 0 ≤ x ∧ x < ((I.n + I.vans : Nat) : Int)
  rising : risingZ l
  few : hitsZ (I.n + I.vans) (cellQ I T) l < l.length
structure ChainZ (I : Ins) (T : Nat → Nat → Int) (l : List Int) : Prop where
  ne : l ≠ []
  sites : ∀ x ∈ l, 0 ≤ x ∧ x ≤ (I.n : Int)
  ends : endsZ l
  forced : ∀ i, i + 1 < l.length → T (l.getD i 0).toNat (l.getD (i + 1) 0).toNat = 1
  blocked : BlockedQ I (l.map Int.toNat)
def HoldZ (I : Ins) (cl : Option Int) (T : Nat → Nat → Int) (nd : Int × List Int) : Prop :=
  (nd.1 = 2 ∧ ∃ c, cl = some c ∧ DualsZ I T c nd.2) ∨ (nd.1 = 3 ∧ HallZ I T nd.2) ∨ (nd.1 = 4 ∧ ChainZ I T nd.2)

theorem sum_getD : ∀ (l : List Int), l.sum = sumL (fun i => l.getD i 0) (List.range l.length) := by
  intro l
  have key : ∀ k, k ≤ l.length → (l.take k).sum = sumL (fun i => l.getD i 0) (List.range k) := by
    intro k
    induction k with
    | zero => intro _; simp [sumL]
    | succ k ih =>
      intro h
      rw [List.take_succ_eq_append_getElem (by omega), List.sum_append_int, ih (by omega), List.range_succ, sumL_append]
      simp [sumL, List.getD_eq_getElem?_getD, List.getElem?_eq_getElem (show k < l.length by omega)]
  have := key l.length (Nat.le_refl _)
  rwa [List.take_length] at this
theorem sum_halves {l : List Int} {N : Nat} (h : l.length = 2 * N) : l.sum = sumL (fun i => l.getD i 0) (List.range N) + sumL (fun j => l.getD (N + j) 0) (List.range N) := by
  rw [sum_getD, h, show 2 * N = N + N by omega, List.range_add, sumL_append]
  congr 1
  rw [sumL_map]
theorem nbr_getD : ∀ (c : List Nat) (p : Nat × Nat), p ∈ nbr c → ∃ i, i + 1 < c.length ∧ p = (c.getD i 0, c.getD (i + 1) 0) := by
  intro c p hp
  obtain ⟨u, v, h⟩ := nbr_mem c (a := p.1) (b := p.2) hp
  refine ⟨u.length, by rw [h]; simp, ?_⟩
  rw [h]
  simp [List.getD_eq_getElem?_getD]
theorem getD_map_nat (l : List Int) (i : Nat) : (l.map Int.toNat).getD i 0 = (l.getD i 0).toNat := by
  rw [List.getD_eq_getElem?_getD, List.getD_eq_getElem?_getD, List.getElem?_map]
  cases l[i]? <;> rfl
theorem rising_nodup {l : List Int} (hp : ∀ x ∈ l, 0 ≤ x) (h : risingZ l) : (l.map Int.toNat).Nodup := by
  have hlt : ∀ i j, i < j → j < l.length → l.getD i 0 < l.getD j 0 := by
    intro i j hij hj
    induction j with
    | zero => omega
    | succ j ih =>
      have h1 := h j hj
      by_cases e : i = j
      · rw [e]; exact h1
      · have := ih (by omega) (by omega); omega
  rw [List.nodup_iff_pairwise_ne, List.pairwise_map, List.pairwise_iff_getElem]
  intro i j hi hj hij
  have h1 := hlt i j hij hj
  rw [List.getD_eq_getElem?_getD, List.getD_eq_getElem?_getD, List.getElem?_eq_getElem hi, List.getElem?_eq_getElem hj] at h1
  have h2 := hp l[i] (List.getElem_mem hi)
  have h3 := hp l[j] (List.getElem_mem hj)
  simp at h1; omega
theorem leaf_sound {I : Ins} (hI : InsOk I) {R : List (List Nat)} {T : Nat → Nat → Int} (h : PlanQ I R) (ha : Along I.n T R) {cl : Option Int} {nd : Int × List Int} (hh : HoldZ I cl T nd) : ∃ c, cl = some c ∧ c ≤ costQ I R := by
  rcases hh with ⟨_, c, hc, hd⟩ | ⟨_, hd⟩ | ⟨_, hd⟩
  · refine ⟨c, hc, ?_⟩
    have := plan_dual h ha (u := fun i => nd.2.getD i 0) (v := fun j => nd.2.getD (I.n + I.vans + j) 0) hd.under
    rw [← sum_halves hd.len] at this
    have := hd.sum
    omega
  · exfalso
    have hp : ∀ x ∈ nd.2, 0 ≤ x := fun x hx => (hd.rows x hx).1
    have h1 := pick_hall (plan_pick h) (plan_cells h ha).1 (nd.2.map Int.toNat) ((List.range (I.n + I.vans)).filter fun j => nd.2.any fun r => decide (cellQ I T r.toNat j ≠ -1)) (rising_nodup hp hd.rising) (fun r hr => by
      obtain ⟨x, hx, rfl⟩ := List.mem_map.1 hr
      have := hd.rows x hx; omega) (fun r hr j hj hc => by
      obtain ⟨x, hx, rfl⟩ := List.mem_map.1 hr
      exact List.mem_filter.2 ⟨by simpa using hj, List.any_eq_true.2 ⟨x, hx, by simpa using hc⟩⟩)
    have := hd.few
    unfold hitsZ at this
    rw [List.length_map] at h1
    omega
  · exfalso
    refine chain_free hI h (c := nd.2.map Int.toNat) (by simpa using hd.ne) (fun s hs => ?_) (fun p hp => ?_) (fun u v e => ?_) hd.blocked
    · obtain ⟨x, hx, rfl⟩ := List.mem_map.1 hs
      have := hd.sites x hx; omega
    · obtain ⟨i, hi, rfl⟩ := nbr_getD _ p hp
      rw [List.length_map] at hi
      rw [getD_map_nat, getD_map_nat]
      have h1 := hd.forced i hi
      have hs1 : ∀ k, k < nd.2.length → (nd.2.getD k 0).toNat ≤ I.n := fun k hk => by
        rw [List.getD_eq_getElem?_getD, List.getElem?_eq_getElem hk]
        have := hd.sites _ (List.getElem_mem hk)
        simp; omega
      exact (ha _ _ (hs1 i (by omega)) (hs1 (i + 1) hi)).1 h1
    · apply Classical.byContradiction
      intro hno
      have hu : 0 < u.length := by
        cases u with
        | nil => exact absurd (.inl rfl) hno
        | cons => simp
      have hv : 0 < v.length := by
        cases v with
        | nil => exact absurd (.inr rfl) hno
        | cons => simp
      have hl := congrArg List.length e
      simp at hl
      have h1 := hd.ends (u.length - 1) (by omega)
      rw [show u.length - 1 + 1 = u.length by omega] at h1
      have h2 : (nd.2.map Int.toNat).getD u.length 0 = 0 := by rw [e]; simp [List.getD_eq_getElem?_getD]
      rw [getD_map_nat] at h2
      have h3 : 0 ≤ nd.2.getD u.length 0 := by
        rw [List.getD_eq_getElem?_getD, List.getElem?_eq_getElem (show u.length < nd.2.length by omega)]
        exact (hd.sites _ (List.getElem_mem _)).1
      omega

/- where a node stands: the branches above it, the lowest first, and the side -/
abbrev PathT := List ((Nat × Nat) × Bool)
def tabP : PathT → Nat → Nat → Int
  | [] => fun _ _ => 0
  | p :: P => upd (tabP P) p.1.1 p.1.2 (if p.2 = true then 1 else 2)
def leaveP : PathT → PathT
  | [] => []
  | p :: P => if p.2 = true then (p.1, false) :: P else leaveP P
def forcedP (P : PathT) : Nat := (P.filter (·.2)).length
def arcZ (n : Nat) (l : List Int) : Prop := 0 ≤ l.getD 0 0 ∧ l.getD 0 0 ≤ (n : Int) ∧ 0 ≤ l.getD 1 0 ∧ l.getD 1 0 ≤ (n : Int) ∧ l.getD 0 0 ≠ l.getD 1 0
open Classical in
noncomputable def stepW (I : Ins) (cl : Option Int) (P : PathT) (nd : Int × List Int) : Option PathT :=
  if nd.1 = 1 then (if arcZ I.n nd.2 ∧ tabP P (nd.2.getD 0 0).toNat (nd.2.getD 1 0).toNat = 0 then some ((((nd.2.getD 0 0).toNat, (nd.2.getD 1 0).toNat), true) :: P) else none)
  else if HoldZ I cl (tabP P) nd then some (leaveP P) else none
noncomputable def walkW (I : Ins) (cl : Option Int) : PathT → List (Int × List Int) → Option PathT
  | P, [] => some P
  | P, nd :: l => match stepW I cl P nd with
    | none => none
    | some P' => walkW I cl P' l
theorem walkW_cons (I : Ins) (cl : Option Int) (P : PathT) (nd : Int × List Int) (l : List (Int × List Int)) : walkW I cl P (nd :: l) = match stepW I cl P nd with | none => none | some P' => walkW I cl P' l := rfl
/- a plan that goes along here, or on the other side of a branch that is still to come -/
def PendP (n : Nat) (P : PathT) (R : List (List Nat)) : Prop := Along n (tabP P) R ∨ ∃ P1 ab P2, P = P1 ++ (ab, true) :: P2 ∧ Along n (tabP ((ab, false) :: P2)) R
theorem leave_forced (P : PathT) : forcedP (leaveP P) = forcedP P - 1 := by
  induction P with
  | nil => rfl
  | cons p P ih =>
    unfold leaveP forcedP
    by_cases h : p.2 = true
    · rw [if_pos h, List.filter_cons_of_pos h, List.filter_cons_of_neg (by simp)]; simp
    · rw [if_neg h, List.filter_cons_of_neg h]; exact ih
theorem leave_pend {n : Nat} {R : List (List Nat)} : ∀ (P P1 : PathT) (ab : Nat × Nat) (P2 : PathT), P = P1 ++ (ab, true) :: P2 → Along n (tabP ((ab, false) :: P2)) R → 0 < forcedP P ∧ PendP n (leaveP P) R := by
  intro P
  induction P with
  | nil => intro P1 ab P2 h; simp at h
  | cons p P ih =>
    intro P1 ab P2 h ha
    cases P1 with
    | nil =>
      simp only [List.nil_append, List.cons.injEq] at h
      obtain ⟨rfl, rfl⟩ := h
      refine ⟨by unfold forcedP; rw [List.filter_cons_of_pos rfl]; simp, ?_⟩
      left
      show Along n (tabP (leaveP ((ab, true) :: P))) R
      unfold leaveP
      rw [if_pos rfl]; exact ha
    | cons q P1 =>
      simp only [List.cons_append, List.cons.injEq] at h
      obtain ⟨rfl, h2⟩ := h
      have hi := ih P1 ab P2 h2 ha
      by_cases hp : p.2 = true
      · refine ⟨by unfold forcedP; rw [List.filter_cons_of_pos hp]; simp, ?_⟩
        right
        refine ⟨(p.1, false) :: P1, ab, P2, ?_, ha⟩
        unfold leaveP
        rw [if_pos hp, h2]; rfl
      · refine ⟨by unfold forcedP; rw [List.filter_cons_of_neg hp]; exact hi.1, ?_⟩
        unfold leaveP
        rw [if_neg hp]; exact hi.2
theorem upd_at (T : Nat → Nat → Int) (a b : Nat) (x : Int) : upd T a b x a b = x := by unfold upd; rw [if_pos ⟨rfl, rfl⟩]
theorem upd_ne {T : Nat → Nat → Int} {a b c d : Nat} {x : Int} (h : ¬ (c = a ∧ d = b)) : upd T a b x c d = T c d := by unfold upd; rw [if_neg h]
/- a list of nodes that all hold, and that is a tree for what is still to come, bounds every plan -/
theorem walk_sound {I : Ins} (hI : InsOk I) {R : List (List Nat)} (h : PlanQ I R) {cl : Option Int} : ∀ (l : List (Int × List Int)) (P P' : PathT), walkW I cl P l = some P' → treeT (1 + forcedP P) l = true → PendP I.n P R → ∃ c, cl = some c ∧ c ≤ costQ I R := by
  intro l
  induction l with
  | nil => intro P P' _ ht _; unfold treeT at ht; simp at ht
  | cons nd l ih =>
    intro P P' hw ht hp
    rw [walkW_cons] at hw
    unfold treeT at ht
    simp only [Bool.and_eq_true] at ht
    cases hs : stepW I cl P nd with
    | none => rw [hs] at hw; cases hw
    | some Q =>
      rw [hs] at hw
      unfold stepW at hs
      by_cases hk : nd.1 = 1
      · rw [if_pos hk] at hs
        split at hs
        · rename_i hc
          cases hs
          have ht2 := ht.2
          unfold nextT at ht2
          rw [if_pos hk] at ht2
          refine ih _ _ hw ?_ ?_
          · unfold forcedP at ht2 ⊢
            rw [List.filter_cons_of_pos rfl, List.length_cons]
            rw [show 1 + ((P.filter (·.2)).length + 1) = 1 + (P.filter (·.2)).length + 1 by omega]; exact ht2
          · rcases hp with ha | ⟨P1, ab, P2, h1, h2⟩
            · by_cases hm : ((nd.2.getD 0 0).toNat, (nd.2.getD 1 0).toNat) ∈ arcsQ R
              · left
                intro a b ha1 hb1
                by_cases e : a = (nd.2.getD 0 0).toNat ∧ b = (nd.2.getD 1 0).toNat
                · obtain ⟨rfl, rfl⟩ := e
                  have : tabP ((((nd.2.getD 0 0).toNat, (nd.2.getD 1 0).toNat), true) :: P) (nd.2.getD 0 0).toNat (nd.2.getD 1 0).toNat = 1 := upd_at _ _ _ _
                  rw [this]; exact ⟨fun _ => hm, fun h => by omega⟩
                · have : tabP ((((nd.2.getD 0 0).toNat, (nd.2.getD 1 0).toNat), true) :: P) a b = tabP P a b := upd_ne e
                  rw [this]; exact ha a b ha1 hb1
              · right
                refine ⟨[], _, P, rfl, ?_⟩
                intro a b ha1 hb1
                by_cases e : a = (nd.2.getD 0 0).toNat ∧ b = (nd.2.getD 1 0).toNat
                · obtain ⟨rfl, rfl⟩ := e
                  have : tabP ((((nd.2.getD 0 0).toNat, (nd.2.getD 1 0).toNat), false) :: P) (nd.2.getD 0 0).toNat (nd.2.getD 1 0).toNat = 2 := upd_at _ _ _ _
                  rw [this]; exact ⟨fun h => by omega, fun _ => hm⟩
                · have : tabP ((((nd.2.getD 0 0).toNat, (nd.2.getD 1 0).toNat), false) :: P) a b = tabP P a b := upd_ne e
                  rw [this]; exact ha a b ha1 hb1
            · right
              exact ⟨_ :: P1, ab, P2, by rw [h1]; rfl, h2⟩
        · cases hs
      · rw [if_neg hk] at hs
        split at hs
        · rename_i hc
          cases hs
          rcases hp with ha | ⟨P1, ab, P2, h1, h2⟩
          · exact leaf_sound hI h ha hc
          · obtain ⟨h3, h4⟩ := leave_pend P P1 ab P2 h1 h2
            refine ih _ _ hw ?_ h4
            have ht2 := ht.2
            unfold nextT at ht2
            rw [if_neg hk] at ht2
            rw [leave_forced, show 1 + (forcedP P - 1) = 1 + forcedP P - 1 by omega]; exact ht2
        · cases hs
theorem check_sound {I : Ins} (hI : InsOk I) {R : List (List Nat)} (h : PlanQ I R) {cl : Option Int} {l : List (Int × List Int)} {P' : PathT} (hw : walkW I cl [] l = some P') (ht : treeT 1 l = true) : ∃ c, cl = some c ∧ c ≤ costQ I R :=
  walk_sound hI h l [] P' hw ht (.inl fun _ _ _ _ => And.intro (fun h => absurd h (show (0 : Int) ≠ 1 by omega)) (fun h => absurd h (show (0 : Int) ≠ 2 by omega)))
end Go.Proofs.YtebinaopncclgabGreatDoor
