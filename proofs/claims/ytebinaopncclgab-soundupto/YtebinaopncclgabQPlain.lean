/- Plain: plans as lists of routes; the cells that they pick; chains along them. No program in sight. -/
import Derived.Test.YtebinaopncclgabAPlain
namespace Go.Proofs.Ytebinaopncclgab

structure Ins where
  n : Nat
  vans : Nat
  load : Int
  close : Int
  D : Nat → Nat → Int
  want : Nat → Int
  frm : Nat → Int
  till : Nat → Int
  stay : Nat → Int
structure InsOk (I : Ins) : Prop where
  close : 0 ≤ I.close
  load : 0 ≤ I.load
  want : ∀ s, 1 ≤ s → s ≤ I.n → 0 ≤ I.want s
  frm : ∀ s, 1 ≤ s → s ≤ I.n → 0 ≤ I.frm s ∧ I.frm s ≤ I.till s
  stay : ∀ s, 1 ≤ s → s ≤ I.n → 0 ≤ I.stay s
  D : ∀ a b, a ≤ I.n → b ≤ I.n → -1 ≤ I.D a b

/- a van that is at a site at a time: when it goes on -/
def arrQ (I : Ins) (t : Int) (s : Nat) : Option Int :=
  if s = 0 then (if t ≤ I.close then some t else none) else if (if t < I.frm s then I.frm s else t) ≤ I.till s then some ((if t < I.frm s then I.frm s else t) + I.stay s) else none
/- it leaves p at the time t and goes along the sites -/
def runQ (I : Ins) : Int → Nat → List Nat → Bool
  | _, _, [] => true
  | t, p, s :: l => match arrQ I (t + I.D p s) s with
    | none => false
    | some t' => runQ I t' s l
def chainT (I : Ins) : List Nat → Bool
  | [] => true
  | s :: l => match arrQ I 0 s with
    | none => false
    | some t => runQ I t s l
theorem runQ_cons (I : Ins) (t : Int) (p s : Nat) (l : List Nat) : runQ I t p (s :: l) = match arrQ I (t + I.D p s) s with | none => false | some t' => runQ I t' s l := rfl
theorem arr_mono {I : Ins} {t t' u : Int} {s : Nat} (h : t ≤ t') (ha : arrQ I t' s = some u) : ∃ v, arrQ I t s = some v ∧ v ≤ u := by
  unfold arrQ at ha ⊢
  by_cases h0 : s = 0
  · rw [if_pos h0] at ha ⊢
    by_cases h1 : t' ≤ I.close
    · rw [if_pos h1] at ha; cases ha; rw [if_pos (by omega)]; exact ⟨t, rfl, h⟩
    · rw [if_neg h1] at ha; cases ha
  · rw [if_neg h0] at ha ⊢
    by_cases h1 : (if t' < I.frm s then I.frm s else t') ≤ I.till s
    · rw [if_pos h1] at ha
      cases ha
      have h2 : (if t < I.frm s then I.frm s else t) ≤ (if t' < I.frm s then I.frm s else t') := by split <;> split <;> omega
      rw [if_pos (by omega)]
      exact ⟨_, rfl, by omega⟩
    · rw [if_neg h1] at ha; cases ha
theorem run_mono {I : Ins} : ∀ (l : List Nat) {t t' : Int} {p : Nat}, t ≤ t' → runQ I t' p l = true → runQ I t p l = true := by
  intro l
  induction l with
  | nil => intro _ _ _ _ _; rfl
  | cons s l ih =>
    intro t t' p h hr
    rw [runQ_cons] at hr ⊢
    cases ha : arrQ I (t' + I.D p s) s with
    | none => rw [ha] at hr; cases hr
    | some u =>
      rw [ha] at hr
      obtain ⟨v, h1, h2⟩ := arr_mono (t := t + I.D p s) (by omega) ha
      rw [h1]
      exact ih h2 hr
theorem run_pre {I : Ins} : ∀ (a b : List Nat) {t : Int} {p : Nat}, runQ I t p (a ++ b) = true → runQ I t p a = true := by
  intro a
  induction a with
  | nil => intro _ _ _ _; rfl
  | cons s a ih =>
    intro b t p h
    rw [List.cons_append, runQ_cons] at h
    rw [runQ_cons]
    cases ha : arrQ I (t + I.D p s) s with
    | none => rw [ha] at h; cases h
    | some u => rw [ha] at h; exact ih b h
/- a van that goes along a ++ [s] ++ b can begin at s -/
theorem run_mid {I : Ins} (hI : InsOk I) {s : Nat} (hs : 1 ≤ s ∧ s ≤ I.n) : ∀ (a b : List Nat) {t : Int} {p : Nat}, runQ I t p (a ++ s :: b) = true → chainT I (s :: b) = true := by
  intro a
  induction a with
  | nil =>
    intro b t p h
    rw [List.nil_append, runQ_cons] at h
    have hf := hI.frm s hs.1 hs.2
    have e : arrQ I 0 s = some (I.frm s + I.stay s) := by
      unfold arrQ
      rw [if_neg (by omega)]
      have e : (if (0 : Int) < I.frm s then I.frm s else 0) = I.frm s := by split <;> omega
      rw [e, if_pos hf.2]
    cases ha : arrQ I (t + I.D p s) s with
    | none => rw [ha] at h; cases h
    | some u =>
      rw [ha] at h
      have hu : I.frm s + I.stay s ≤ u := by
        unfold arrQ at ha
        rw [if_neg (by omega)] at ha
        by_cases h1 : (if t + I.D p s < I.frm s then I.frm s else t + I.D p s) ≤ I.till s
        · rw [if_pos h1] at ha
          have := Option.some.inj ha
          rw [← this]
          split <;> omega
        · rw [if_neg h1] at ha; cases ha
      show (match arrQ I 0 s with | none => false | some t => runQ I t s b) = true
      rw [e]
      exact run_mono b hu h
  | cons x a ih =>
    intro b t p h
    rw [List.cons_append, runQ_cons] at h
    cases ha : arrQ I (t + I.D p x) x with
    | none => rw [ha] at h; cases h
    | some u => rw [ha] at h; exact ih b h

/- the arcs of a route, and of routes -/
def arcsR (ρ : List Nat) : List (Nat × Nat) := (0 :: ρ).zip (ρ ++ [0])
def arcsQ (R : List (List Nat)) : List (Nat × Nat) := (R.map arcsR).flatten
def sumA (D : Nat → Nat → Int) (A : List (Nat × Nat)) : Int := (A.map fun p => D p.1 p.2).sum
def sumW (I : Ins) (l : List Nat) : Int := (l.map fun s => if s = 0 then 0 else I.want s).sum
structure PlanQ (I : Ins) (R : List (List Nat)) : Prop where
  few : R.length ≤ I.vans
  ne : ∀ ρ ∈ R, ρ ≠ []
  stops : ∀ s ∈ R.flatten, 1 ≤ s ∧ s ≤ I.n
  once : R.flatten.Nodup
  all : ∀ s, 1 ≤ s → s ≤ I.n → s ∈ R.flatten
  load : ∀ ρ ∈ R, sumW I ρ ≤ I.load
  way : ∀ p ∈ arcsQ R, I.D p.1 p.2 ≠ -1
  time : ∀ ρ ∈ R, runQ I 0 0 (ρ ++ [0]) = true
def costQ (I : Ins) (R : List (List Nat)) : Int := sumA I.D (arcsQ R)

theorem sumW_app (I : Ins) (a b : List Nat) : sumW I (a ++ b) = sumW I a + sumW I b := by simp [sumW]
theorem sumW_pos {I : Ins} (hI : InsOk I) : ∀ (l : List Nat), (∀ s ∈ l, s ≤ I.n) → 0 ≤ sumW I l := by
  intro l
  induction l with
  | nil => intro _; simp [sumW]
  | cons s l ih =>
    intro h
    have h1 := ih fun x hx => h x (by simp [hx])
    have h2 := h s (by simp)
    unfold sumW at h1 ⊢
    simp only [List.map_cons, List.sum_cons]
    by_cases h0 : s = 0
    · rw [if_pos h0]; omega
    · rw [if_neg h0]; have := hI.want s (by omega) h2; omega
/- pairs of neighbours -/
def nbr : List Nat → List (Nat × Nat)
  | [] => []
  | [_] => []
  | a :: b :: l => (a, b) :: nbr (b :: l)
theorem nbr_zip : ∀ (x : Nat) (l : List Nat), (x :: l).zip l = nbr (x :: l) := by
  intro x l
  induction l generalizing x with
  | nil => rfl
  | cons y l ih => show (x, y) :: (y :: l).zip l = _; rw [ih]; rfl
theorem arcs_nbr (ρ : List Nat) : arcsR ρ = nbr (0 :: (ρ ++ [0])) := by
  unfold arcsR
  rw [← nbr_zip]
  have key : ∀ (a b c : List Nat), a.length = b.length → (a ++ c).zip b = a.zip b := by
    intro a
    induction a with
    | nil => intro b c h; have : b = [] := List.length_eq_zero_iff.1 h.symm; subst this; simp
    | cons x a ih =>
      intro b c h
      cases b with
      | nil => simp at h
      | cons y b => simp only [List.cons_append, List.zip_cons_cons]; rw [ih b c (by simpa using h)]
  have := key (0 :: ρ) (ρ ++ [0]) [0] (by simp)
  simpa using this.symm
theorem nbr_app : ∀ (a b : List Nat) (x : Nat), nbr (a ++ x :: b) = nbr (a ++ [x]) ++ nbr (x :: b) := by
  intro a
  induction a with
  | nil => intro b x; simp [nbr]
  | cons y a ih =>
    intro b x
    cases a with
    | nil => simp [nbr]
    | cons z a =>
      show (y, z) :: nbr (z :: a ++ x :: b) = _
      rw [ih b x]; rfl
/- firsts and seconds of the arcs that are stops -/
theorem arcs_fst (ρ : List Nat) : (arcsR ρ).map (·.1) = 0 :: ρ := by
  unfold arcsR
  rw [List.map_fst_zip]; simp
theorem arcs_snd (ρ : List Nat) : (arcsR ρ).map (·.2) = ρ ++ [0] := by
  unfold arcsR
  rw [List.map_snd_zip]; simp
theorem filter_all {L : List Nat} (h : ∀ s ∈ L, s ≠ 0) : L.filter (fun s => decide (s ≠ 0)) = L := by
  rw [List.filter_eq_self]; intro a ha; simpa using h a ha
theorem arcsQ_fst {R : List (List Nat)} (h : ∀ s ∈ R.flatten, s ≠ 0) : ((arcsQ R).map (·.1)).filter (fun s => decide (s ≠ 0)) = R.flatten := by
  induction R with
  | nil => rfl
  | cons ρ R ih =>
    have h1 : ∀ s ∈ ρ, s ≠ 0 := fun s hs => h s (by simp [hs])
    have h2 : ∀ s ∈ R.flatten, s ≠ 0 := fun s hs => h s (by rw [List.flatten_cons]; exact List.mem_append_right _ hs)
    unfold arcsQ at ih ⊢
    rw [List.map_cons, List.flatten_cons, List.map_append, List.filter_append, ih h2, arcs_fst, List.flatten_cons]
    congr 1
    rw [List.filter_cons_of_neg (by simp), filter_all h1]
theorem arcsQ_snd {R : List (List Nat)} (h : ∀ s ∈ R.flatten, s ≠ 0) : ((arcsQ R).map (·.2)).filter (fun s => decide (s ≠ 0)) = R.flatten := by
  induction R with
  | nil => rfl
  | cons ρ R ih =>
    have h1 : ∀ s ∈ ρ, s ≠ 0 := fun s hs => h s (by simp [hs])
    have h2 : ∀ s ∈ R.flatten, s ≠ 0 := fun s hs => h s (by rw [List.flatten_cons]; exact List.mem_append_right _ hs)
    unfold arcsQ at ih ⊢
    rw [List.map_cons, List.flatten_cons, List.map_append, List.filter_append, ih h2, arcs_snd, List.flatten_cons]
    congr 1
    rw [List.filter_append, filter_all h1]; simp
theorem nodup_part {R : List (List Nat)} {ρ : List Nat} (h : R.flatten.Nodup) (hm : ρ ∈ R) : ρ.Nodup := by
  obtain ⟨A, B, rfl⟩ := List.append_of_mem hm
  rw [List.flatten_append, List.flatten_cons] at h
  exact (List.nodup_append.1 (List.nodup_append.1 h).2.1).1
theorem one_of {L : List (Nat × Nat)} (f : Nat × Nat → Nat) (hn : ((L.map f).filter fun s => decide (s ≠ 0)).Nodup) {p q : Nat × Nat} (hp : p ∈ L) (hq : q ∈ L) (h0 : f p ≠ 0) (he : f p = f q) : p = q := by
  induction L with
  | nil => cases hp
  | cons x L ih =>
    rw [List.map_cons] at hn
    by_cases hx : f x = 0
    · rw [List.filter_cons_of_neg (by simpa using hx)] at hn
      rcases List.mem_cons.1 hp with h | h
      · rw [h] at h0; exact absurd hx h0
      · rcases List.mem_cons.1 hq with h' | h'
        · rw [h'] at he; rw [he] at h0; exact absurd hx h0
        · exact ih hn h h'
    · rw [List.filter_cons_of_pos (by simpa using hx), List.nodup_cons] at hn
      have hm : ∀ y ∈ L, f y ≠ f x := fun y hy e => hn.1 (List.mem_filter.2 ⟨List.mem_map.2 ⟨y, hy, e⟩, by simpa using hx⟩)
      rcases List.mem_cons.1 hp with h | h
      · rcases List.mem_cons.1 hq with h' | h'
        · rw [h, h']
        · rw [h] at he; exact absurd he.symm (hm q h')
      · rcases List.mem_cons.1 hq with h' | h'
        · rw [h'] at he; exact absurd he (hm p h)
        · exact ih hn.2 h h'
theorem PlanQ.nz {I : Ins} {R : List (List Nat)} (h : PlanQ I R) : ∀ s ∈ R.flatten, s ≠ 0 := fun s hs => by have := h.stops s hs; omega
theorem PlanQ.out_one {I : Ins} {R : List (List Nat)} (h : PlanQ I R) {a b c : Nat} (ha : a ≠ 0) (h1 : (a, b) ∈ arcsQ R) (h2 : (a, c) ∈ arcsQ R) : b = c := by
  have := one_of (L := arcsQ R) (·.1) (by rw [arcsQ_fst h.nz]; exact h.once) h1 h2 ha rfl
  cases this; rfl
theorem PlanQ.in_one {I : Ins} {R : List (List Nat)} (h : PlanQ I R) {a b c : Nat} (hb : b ≠ 0) (h1 : (a, b) ∈ arcsQ R) (h2 : (c, b) ∈ arcsQ R) : a = c := by
  have := one_of (L := arcsQ R) (·.2) (by rw [arcsQ_snd h.nz]; exact h.once) h1 h2 hb rfl
  cases this; rfl
theorem arcs_range {I : Ins} {R : List (List Nat)} (h : PlanQ I R) : ∀ p ∈ arcsQ R, p.1 ≤ I.n ∧ p.2 ≤ I.n := by
  intro p hp
  constructor
  · by_cases h0 : p.1 = 0
    · omega
    · have : p.1 ∈ R.flatten := by
        rw [← arcsQ_fst h.nz]; exact List.mem_filter.2 ⟨List.mem_map.2 ⟨p, hp, rfl⟩, by simpa using h0⟩
      exact (h.stops _ this).2
  · by_cases h0 : p.2 = 0
    · omega
    · have : p.2 ∈ R.flatten := by
        rw [← arcsQ_snd h.nz]; exact List.mem_filter.2 ⟨List.mem_map.2 ⟨p, hp, rfl⟩, by simpa using h0⟩
      exact (h.stops _ this).2
theorem nbr_mem : ∀ (l : List Nat) {a b : Nat}, (a, b) ∈ nbr l → ∃ u v, l = u ++ a :: b :: v := by
  intro l
  induction l with
  | nil => intro a b h; cases h
  | cons x l ih =>
    intro a b h
    cases l with
    | nil => cases h
    | cons y l =>
      rcases List.mem_cons.1 h with e | e
      · cases e; exact ⟨[], l, rfl⟩
      · obtain ⟨u, v, h1⟩ := ih e; exact ⟨x :: u, v, by rw [h1]; rfl⟩
theorem arc_ne {I : Ins} {R : List (List Nat)} (h : PlanQ I R) : ∀ p ∈ arcsQ R, p.1 ≠ p.2 := by
  intro p hp e
  obtain ⟨L, hL, hp'⟩ := List.mem_flatten.1 hp
  obtain ⟨ρ, hρ, rfl⟩ := List.mem_map.1 hL
  rw [arcs_nbr] at hp'
  obtain ⟨u, v, huv⟩ := nbr_mem _ (a := p.1) (b := p.2) hp'
  have hn : ρ.Nodup := nodup_part h.once hρ
  have hz : ∀ s ∈ ρ, s ≠ 0 := fun s hs => h.nz s (List.mem_flatten.2 ⟨ρ, hρ, hs⟩)
  rw [← e] at huv
  cases u with
  | nil =>
    simp only [List.nil_append, List.cons.injEq] at huv
    obtain ⟨h1, h2⟩ := huv
    cases ρ with
    | nil => exact h.ne [] hρ rfl
    | cons s ρ => simp only [List.cons_append, List.cons.injEq] at h2; exact hz s (by simp) (by rw [h2.1, ← h1])
  | cons x u =>
    simp only [List.cons_append, List.cons.injEq] at huv
    have h2 := huv.2
    by_cases hv : v = []
    · subst hv
      have h3 : ρ ++ [0] = (u ++ [p.1]) ++ [p.1] := by rw [h2]; simp
      have h4 := List.append_inj' h3 rfl
      have h5 : p.1 = 0 := by simpa using h4.2.symm
      exact hz p.1 (by rw [h4.1]; simp) h5
    · obtain ⟨v', y, rfl⟩ : ∃ v' y, v = v' ++ [y] := ⟨v.dropLast, v.getLast hv, (List.dropLast_concat_getLast hv).symm⟩
      have h3 : ρ ++ [0] = (u ++ p.1 :: p.1 :: v') ++ [y] := by rw [h2]; simp
      have h4 := (List.append_inj' h3 rfl).1
      rw [h4] at hn
      have := (List.nodup_append.1 hn).2.1
      simp at this

/- chains along a plan -/
def twiceQ (c : List Nat) : Prop := ¬ (c.filter fun s => decide (s ≠ 0)).Nodup
structure BlockedQ (I : Ins) (c : List Nat) : Prop where
  why : twiceQ c ∨ I.load < sumW I c ∨ (∃ p ∈ nbr c, I.D p.1 p.2 = -1) ∨ chainT I c = false
/- the sites behind a stop, as far as a chain goes -/
theorem chain_sfx {I : Ins} {R : List (List Nat)} (h : PlanQ I R) : ∀ (c : List Nat) (s : Nat) (pre post : List Nat), pre ++ s :: post ∈ R → (∀ p ∈ nbr (s :: c), p ∈ arcsQ R) → (∀ u v, c = u ++ 0 :: v → v = []) → ∃ rest, post ++ [0] = c ++ rest := by
  intro c
  induction c with
  | nil => intro s pre post _ _ _; exact ⟨_, rfl⟩
  | cons y c ih =>
    intro s pre post hR hA hz
    have h1 : (s, y) ∈ arcsQ R := hA _ (by simp [nbr])
    have hs0 : s ≠ 0 := h.nz s (List.mem_flatten.2 ⟨_, hR, by simp⟩)
    have hmem : ∀ q ∈ arcsR (pre ++ s :: post), q ∈ arcsQ R := fun q hq => List.mem_flatten.2 ⟨_, List.mem_map.2 ⟨_, hR, rfl⟩, hq⟩
    have hnb : arcsR (pre ++ s :: post) = nbr ((0 :: pre) ++ s :: (post ++ [0])) := by rw [arcs_nbr]; simp
    cases hp : post with
    | nil =>
      rw [hp] at hmem hnb
      have h2 : (s, 0) ∈ arcsQ R := hmem _ (by rw [hnb, nbr_app]; exact List.mem_append_right _ (by simp [nbr]))
      have h3 := h.out_one hs0 h1 h2
      have : c = [] := hz [] c (by rw [h3]; rfl)
      exact ⟨[], by rw [h3, this]; rfl⟩
    | cons z post' =>
      rw [hp] at hmem hnb
      have h2 : (s, z) ∈ arcsQ R := hmem _ (by rw [hnb, nbr_app]; exact List.mem_append_right _ (by simp [nbr]))
      have h3 := h.out_one hs0 h1 h2
      rw [hp] at hR
      obtain ⟨rest, hr⟩ := ih y (pre ++ [s]) post' (by rw [h3]; simpa using hR) (fun p hp => hA p (by simp [nbr, hp])) (fun u v e => hz (y :: u) v (by rw [e]; rfl))
      exact ⟨rest, by rw [← h3, List.cons_append, List.cons_append, hr]⟩
theorem nbr_sub : ∀ (a c b : List Nat) {p : Nat × Nat}, p ∈ nbr c → p ∈ nbr (a ++ c ++ b) := by
  intro a c b p hp
  obtain ⟨u, v, h⟩ := nbr_mem c (a := p.1) (b := p.2) hp
  have e : a ++ c ++ b = (a ++ u) ++ p.1 :: (p.2 :: (v ++ b)) := by rw [h]; simp
  rw [e, nbr_app]
  exact List.mem_append_right _ (by simp [nbr])
/- a chain that is a piece of a route with the depot at both ends can be gone along -/
theorem piece_free {I : Ins} (hI : InsOk I) {R : List (List Nat)} (h : PlanQ I R) {ρ pre c post : List Nat} (hR : ρ ∈ R) (hc : c ≠ []) (he : 0 :: (ρ ++ [0]) = pre ++ c ++ post) : ¬ BlockedQ I c := by
  intro hb
  have hn : ρ.Nodup := nodup_part h.once hR
  have hz : ∀ s ∈ ρ, 1 ≤ s ∧ s ≤ I.n := fun s hs => h.stops s (List.mem_flatten.2 ⟨ρ, hR, hs⟩)
  have hf : (0 :: (ρ ++ [0])).filter (fun s => decide (s ≠ 0)) = ρ := by
    rw [List.filter_cons_of_neg (by simp), List.filter_append, filter_all (fun s hs => by have := hz s hs; omega)]; simp
  have hall : ∀ s ∈ 0 :: (ρ ++ [0]), s ≤ I.n := fun s hs => by
    rcases List.mem_cons.1 hs with e | e
    · omega
    · rcases List.mem_append.1 e with e | e
      · exact (hz s e).2
      · simp at e; omega
  rcases hb.why with h1 | h1 | ⟨p, hp, h1⟩ | h1
  · apply h1
    rw [he, List.filter_append, List.filter_append] at hf
    rw [← hf] at hn
    exact (List.nodup_append.1 (List.nodup_append.1 hn).1).2.1
  · have e1 : sumW I (0 :: (ρ ++ [0])) = sumW I ρ := by
      have : 0 :: (ρ ++ [0]) = [0] ++ ρ ++ [0] := by simp
      rw [this, sumW_app, sumW_app]; simp [sumW]
    rw [he, sumW_app, sumW_app] at e1
    have h2 := h.load ρ hR
    have h3 := sumW_pos hI pre (fun s hs => hall s (by rw [he]; simp [hs]))
    have h4 := sumW_pos hI post (fun s hs => hall s (by rw [he]; simp [hs]))
    omega
  · have : p ∈ arcsQ R := List.mem_flatten.2 ⟨_, List.mem_map.2 ⟨ρ, hR, rfl⟩, by rw [arcs_nbr, he]; exact nbr_sub pre c post hp⟩
    exact h.way p this h1
  · have ht := h.time ρ hR
    cases c with
    | nil => exact hc rfl
    | cons s c =>
      have key : chainT I (s :: (c ++ post)) = true := by
        cases pre with
        | nil =>
          simp only [List.nil_append, List.cons_append, List.cons.injEq] at he
          have e : arrQ I 0 s = some 0 := by
            unfold arrQ
            rw [if_pos he.1.symm, if_pos hI.close]
          show (match arrQ I 0 s with | none => false | some t => runQ I t s (c ++ post)) = true
          rw [e, ← he.1, ← he.2]; exact ht
        | cons x pre =>
          simp only [List.cons_append, List.cons.injEq] at he
          by_cases hs : s = 0
          · have e : arrQ I 0 s = some 0 := by
              unfold arrQ
              rw [if_pos hs, if_pos hI.close]
            have hcp : c ++ post = [] := by
              have h2 : ρ ++ [0] = pre ++ s :: (c ++ post) := by rw [he.2]; simp
              apply Classical.byContradiction
              intro hne
              obtain ⟨m, y, hy⟩ : ∃ m y, c ++ post = m ++ [y] := ⟨_, _, (List.dropLast_concat_getLast hne).symm⟩
              rw [hy] at h2
              have h3 : ρ ++ [0] = (pre ++ s :: m) ++ [y] := by rw [h2]; simp
              have h4 := (List.append_inj' h3 rfl).1
              have := hz s (by rw [h4]; simp)
              omega
            show (match arrQ I 0 s with | none => false | some t => runQ I t s (c ++ post)) = true
            rw [e, hcp]; rfl
          · have hsm : s ∈ ρ ++ [0] := by rw [he.2]; simp
            have hs2 : 1 ≤ s ∧ s ≤ I.n := by
              rcases List.mem_append.1 hsm with e | e
              · exact hz s e
              · simp at e; exact absurd e hs
            rw [he.2] at ht
            exact run_mid hI hs2 pre (c ++ post) (by simpa using ht)
      have : chainT I (s :: c) = true := by
        revert key
        show (match arrQ I 0 s with | none => false | some t => runQ I t s (c ++ post)) = true → (match arrQ I 0 s with | none => false | some t => runQ I t s c) = true
        cases arrQ I 0 s with
        | none => intro h; exact h
        | some t => intro h; exact run_pre c post h
      rw [this] at h1; cases h1
/- a chain whose arcs a plan goes can be gone along -/
theorem chain_free {I : Ins} (hI : InsOk I) {R : List (List Nat)} (h : PlanQ I R) {c : List Nat} (hc : c ≠ []) (hr : ∀ s ∈ c, s ≤ I.n) (hA : ∀ p ∈ nbr c, p ∈ arcsQ R) (hz : ∀ u v, c = u ++ 0 :: v → u = [] ∨ v = []) : ¬ BlockedQ I c := by
  cases c with
  | nil => exact absurd rfl hc
  | cons s c =>
    by_cases hs : s = 0
    · subst hs
      cases c with
      | nil =>
        intro hb
        rcases hb.why with h1 | h1 | ⟨p, hp, _⟩ | h1
        · exact h1 (by simp)
        · simp [sumW] at h1; have := hI.load; omega
        · cases hp
        · revert h1
          show (match arrQ I 0 0 with | none => false | some t => runQ I t 0 []) = false → False
          have e : arrQ I 0 0 = some 0 := by unfold arrQ; rw [if_pos rfl, if_pos hI.close]
          rw [e]; intro h; cases h
      | cons y c =>
        have h1 : (0, y) ∈ arcsQ R := hA _ (by simp [nbr])
        obtain ⟨L, hL, hp'⟩ := List.mem_flatten.1 h1
        obtain ⟨ρ, hρ, rfl⟩ := List.mem_map.1 hL
        have hz' : ∀ t ∈ ρ, t ≠ 0 := fun t ht => h.nz t (List.mem_flatten.2 ⟨ρ, hρ, ht⟩)
        obtain ⟨z, ρ', rfl⟩ : ∃ z ρ', ρ = z :: ρ' := by
          cases ρ with
          | nil => exact absurd rfl (h.ne [] hρ)
          | cons z ρ' => exact ⟨z, ρ', rfl⟩
        have hy : y = z := by
          rw [arcs_nbr] at hp'
          have e : nbr (0 :: (z :: ρ' ++ [0])) = (0, z) :: nbr (z :: (ρ' ++ [0])) := rfl
          rw [e] at hp'
          rcases List.mem_cons.1 hp' with e | e
          · cases e; rfl
          · obtain ⟨u, v, huv⟩ := nbr_mem _ e
            exfalso
            have h3 : (z :: ρ') ++ [0] = u ++ 0 :: y :: v := by rw [List.cons_append]; exact huv
            have hne : y :: v ≠ [] := by simp
            obtain ⟨m, q, hq⟩ : ∃ m q, y :: v = m ++ [q] := ⟨_, _, (List.dropLast_concat_getLast hne).symm⟩
            rw [hq] at h3
            have h4 : (z :: ρ') ++ [0] = (u ++ 0 :: m) ++ [q] := by rw [h3]; simp
            have h5 := (List.append_inj' h4 rfl).1
            exact hz' 0 (by rw [h5]; simp) rfl
        subst hy
        obtain ⟨rest, hr2⟩ := chain_sfx h c y [] ρ' (by simpa using hρ) (fun p hp => hA p (by simp [nbr, hp])) (fun u v e => by
          rcases hz (0 :: y :: u) v (by rw [e]; rfl) with h | h
          · cases h
          · exact h)
        exact piece_free hI h (pre := []) (post := rest) hρ (by simp) (by simp [hr2])
    · have hs2 : 1 ≤ s ∧ s ≤ I.n := ⟨by omega, hr s (by simp)⟩
      obtain ⟨ρ, hρ, hm⟩ := List.mem_flatten.1 (h.all s hs2.1 hs2.2)
      obtain ⟨pre, post, rfl⟩ := List.append_of_mem hm
      obtain ⟨rest, hr2⟩ := chain_sfx h c s pre post hρ hA (fun u v e => by
        rcases hz (s :: u) v (by rw [e]; rfl) with h | h
        · cases h
        · exact h)
      exact piece_free hI h (pre := 0 :: pre) (post := rest) hρ (by simp) (by simp [hr2])
end Go.Proofs.Ytebinaopncclgab
