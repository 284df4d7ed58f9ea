/- Plain: where all arcs are decided as a plan goes them, the least sum is its cost. No program in sight. -/
import Derived.Test.YtebinaopncclgaaQCell
namespace Go.Proofs.Ytebinaopncclgaa

theorem tight_pick {N : Nat} {C : Nat → Nat → Int} {col u v : Nat → Int} {cost : Int} (ht : Tight N C col u v cost) : Pick N ((List.range N).map fun i => (i, (col i).toNat)) ∧ (∀ p ∈ (List.range N).map fun i => (i, (col i).toNat), C p.1 p.2 ≠ -1) ∧ (((List.range N).map fun i => (i, (col i).toNat)).map fun p => C p.1 p.2).sum = cost := by
  have hc : ∀ i, i < N → (col i).toNat < N ∧ C i (col i).toNat ≠ -1 := fun i hi => by
    obtain ⟨k, h1, h2, h3⟩ := ht.tcol i hi
    rw [h1]; exact ⟨by simpa using h2, by simpa using h3⟩
  refine ⟨⟨?_, fun p hp => ?_, by simp, ?_⟩, fun p hp => ?_, ?_⟩
  · rw [List.map_map]
    have : (List.range N).map ((fun p : Nat × Nat => p.1) ∘ fun i => (i, (col i).toNat)) = List.range N := by
      have : (List.range N).map ((fun p : Nat × Nat => p.1) ∘ fun i => (i, (col i).toNat)) = (List.range N).map id := List.map_congr_left fun _ _ => rfl
      rw [this, List.map_id]
    rw [this]; exact List.nodup_range
  · obtain ⟨i, hi, rfl⟩ := List.mem_map.1 hp
    have hi' : i < N := by simpa using hi
    exact ⟨hi', (hc i hi').1⟩
  · rw [List.map_map]
    refine nodup_map_on List.nodup_range fun a ha b hb e => ?_
    have ha' : a < N := by simpa using ha
    have hb' : b < N := by simpa using hb
    obtain ⟨k, h1, _⟩ := ht.tcol a ha'
    obtain ⟨m, h2, _⟩ := ht.tcol b hb'
    refine ht.one a b ha' hb' ?_
    simp only [Function.comp] at e
    omega
  · obtain ⟨i, hi, rfl⟩ := List.mem_map.1 hp
    exact (hc i (by simpa using hi)).2
  · rw [ht.tcost, List.map_map]
    have : ∀ L : List Nat, (L.map ((fun p : Nat × Nat => C p.1 p.2) ∘ fun i => (i, (col i).toNat))).sum = sumL (fun i => C i (col i).toNat) L := by
      intro L
      induction L with
      | nil => rfl
      | cons x L ih => simp only [List.map_cons, List.sum_cons, sumL, ih]; rfl
    exact this _
/- sums over arcs that leave a site -/
def outS (A : List (Nat × Nat)) (g : Nat × Nat → Nat) (f : Nat × Nat → Int) (x : Nat) : Int := ((A.filter fun p => decide (g p = x)).map f).sum
theorem outS_cons (p : Nat × Nat) (A : List (Nat × Nat)) (g : Nat × Nat → Nat) (f : Nat × Nat → Int) (x : Nat) : outS (p :: A) g f x = (if g p = x then f p else 0) + outS A g f x := by
  unfold outS
  by_cases h : g p = x
  · rw [List.filter_cons_of_pos (by simpa using h), if_pos h]; simp
  · rw [List.filter_cons_of_neg (by simpa using h), if_neg h]; simp
theorem outS_all (A : List (Nat × Nat)) (g : Nat × Nat → Nat) (f : Nat × Nat → Int) (n : Nat) (h : ∀ p ∈ A, 1 ≤ g p ∧ g p ≤ n) : sumL (fun i => outS A g f (i + 1)) (List.range n) = (A.map f).sum := by
  induction A with
  | nil =>
    have : ∀ L : List Nat, sumL (fun i => outS [] g f (i + 1)) L = 0 := by
      intro L; induction L with
      | nil => rfl
      | cons x L ih => simp only [sumL, ih]; rfl
    rw [this]; rfl
  | cons p A ih =>
    have h1 := h p (by simp)
    have e : sumL (fun i => outS (p :: A) g f (i + 1)) (List.range n) = sumL (fun i => if g p = i + 1 then f p else 0) (List.range n) + sumL (fun i => outS A g f (i + 1)) (List.range n) := by
      rw [← sumL_add]; exact sumL_congr fun i _ => outS_cons p A g f (i + 1)
    have e2 : ∀ m, sumL (fun i => if g p = i + 1 then f p else 0) (List.range m) = if g p ≤ m then f p else 0 := by
      intro m
      induction m with
      | zero => rw [if_neg (by omega)]; rfl
      | succ m ih =>
        rw [List.range_succ, sumL_append, ih]
        simp only [sumL]
        by_cases c1 : g p ≤ m
        · rw [if_pos c1, if_neg (by omega), if_pos (by omega)]; omega
        · by_cases c2 : g p = m + 1
          · rw [if_neg c1, if_pos c2, if_pos (by omega)]; omega
          · rw [if_neg c1, if_neg c2, if_neg (by omega)]; omega
    rw [e, e2, if_pos h1.2, ih fun q hq => h q (by simp [hq])]; simp
theorem outS_one {A : List (Nat × Nat)} {g : Nat × Nat → Nat} {f : Nat × Nat → Int} {x : Nat} {p : Nat × Nat} (hn : A.Nodup) (hp : p ∈ A) (hg : g p = x) (h1 : ∀ q ∈ A, g q = x → q = p) : outS A g f x = f p := by
  induction A with
  | nil => cases hp
  | cons q A ih =>
    rw [outS_cons]
    have hn' := List.nodup_cons.1 hn
    by_cases e : q = p
    · subst e
      rw [if_pos hg]
      have : outS A g f x = 0 := by
        unfold outS
        have : A.filter (fun p => decide (g p = x)) = [] := by
          rw [List.filter_eq_nil_iff]
          intro y hy hc
          exact hn'.1 (h1 y (by simp [hy]) (by simpa using hc) ▸ hy)
        rw [this]; rfl
      omega
    · rw [if_neg fun h => e (h1 q (by simp) h)]
      have hp' : p ∈ A := by
        rcases List.mem_cons.1 hp with h | h
        · exact absurd h.symm e
        · exact h
      rw [ih hn'.2 hp' fun y hy => h1 y (by simp [hy])]; omega
theorem outS_none {A : List (Nat × Nat)} {g : Nat × Nat → Nat} {f : Nat × Nat → Int} {x : Nat} (h : ∀ q ∈ A, g q ≠ x) : outS A g f x = 0 := by
  unfold outS
  have : A.filter (fun p => decide (g p = x)) = [] := by
    rw [List.filter_eq_nil_iff]
    intro y hy hc
    exact h y hy (by simpa using hc)
  rw [this]; rfl
theorem arcs_nodup {I : Ins} {R : List (List Nat)} (h : PlanQ I R) : (arcsQ R).Nodup := by
  have key : ∀ L : List (Nat × Nat), (∀ p ∈ L, p.1 ≠ 0 ∨ p.2 ≠ 0) → ((L.map (·.1)).filter fun s => decide (s ≠ 0)).Nodup → ((L.map (·.2)).filter fun s => decide (s ≠ 0)).Nodup → L.Nodup := by
    intro L
    induction L with
    | nil => intro _ _ _; exact List.nodup_nil
    | cons p L ih =>
      intro h0 h1 h2
      have h1' : ((L.map (·.1)).filter fun s => decide (s ≠ 0)).Nodup := by
        rw [List.map_cons] at h1
        by_cases e : p.1 = 0
        · rwa [List.filter_cons_of_neg (by simpa using e)] at h1
        · rw [List.filter_cons_of_pos (by simpa using e)] at h1; exact (List.nodup_cons.1 h1).2
      have h2' : ((L.map (·.2)).filter fun s => decide (s ≠ 0)).Nodup := by
        rw [List.map_cons] at h2
        by_cases e : p.2 = 0
        · rwa [List.filter_cons_of_neg (by simpa using e)] at h2
        · rw [List.filter_cons_of_pos (by simpa using e)] at h2; exact (List.nodup_cons.1 h2).2
      refine List.nodup_cons.2 ⟨fun hm => ?_, ih (fun q hq => h0 q (by simp [hq])) h1' h2'⟩
      rcases h0 p (by simp) with e | e
      · rw [List.map_cons, List.filter_cons_of_pos (by simpa using e)] at h1
        exact (List.nodup_cons.1 h1).1 (List.mem_filter.2 ⟨List.mem_map.2 ⟨p, hm, rfl⟩, by simpa using e⟩)
      · rw [List.map_cons, List.filter_cons_of_pos (by simpa using e)] at h2
        exact (List.nodup_cons.1 h2).1 (List.mem_filter.2 ⟨List.mem_map.2 ⟨p, hm, rfl⟩, by simpa using e⟩)
  refine key _ (fun p hp => ?_) (by rw [arcsQ_fst h.nz]; exact h.once) (by rw [arcsQ_snd h.nz]; exact h.once)
  have := arc_ne h p hp
  omega
/- all arcs decided -/
structure FullQ (n : Nat) (T : Nat → Nat → Int) (R : List (List Nat)) : Prop where
  yes : ∀ a b, a ≤ n → b ≤ n → (a, b) ∈ arcsQ R → T a b = 1
  no : ∀ a b, a ≤ n → b ≤ n → a ≠ b → (a, b) ∉ arcsQ R → T a b = 2
  same : ∀ a, T a a = 0
theorem full_along {I : Ins} {R : List (List Nat)} {T : Nat → Nat → Int} (h : FullQ I.n T R) : Along I.n T R := fun a b ha hb => by
  by_cases hm : (a, b) ∈ arcsQ R
  · have := h.yes a b ha hb hm; exact ⟨fun _ => hm, fun e => by omega⟩
  · by_cases e : a = b
    · subst e; have := h.same a; exact ⟨fun e => by omega, fun _ => hm⟩
    · have := h.no a b ha hb e hm; exact ⟨fun e => by omega, fun _ => hm⟩
theorem full_least {I : Ins} {R : List (List Nat)} {T : Nat → Nat → Int} (h : PlanQ I R) (hf : FullQ I.n T R) {col u v : Nat → Int} {cost : Int} (ht : Tight (I.n + I.vans) (cellQ I T) col u v cost) : cost = costQ I R := by
  have hle := plan_tight h (full_along hf) ht
  obtain ⟨hp, ho, hsum⟩ := tight_pick ht
  have hnd := arcs_nodup h
  let A1 := (arcsQ R).filter fun p => decide (p.1 ≠ 0)
  let A0 := (arcsQ R).filter fun p => decide (p.1 = 0)
  have hA1 : A1.Nodup := List.filter_sublist.nodup hnd
  have hA0 : A0.Nodup := List.filter_sublist.nodup hnd
  let f : Nat × Nat → Int := fun p => I.D p.1 p.2
  let U : Nat → Int := fun i => if i < I.n then outS A1 (·.1) f (i + 1) else 0
  let V : Nat → Int := fun j => if j < I.n then outS A0 (·.2) f (j + 1) else 0
  have hrow : ∀ g : Nat → Int, sumL (fun i => if i < I.n then g i else 0) (List.range (I.n + I.vans)) = sumL g (List.range I.n) := fun g => by
    rw [List.range_add, sumL_append, sumL_map]
    have e1 : sumL (fun i => if i < I.n then g i else 0) (List.range I.n) = sumL g (List.range I.n) := sumL_congr fun i hi => if_pos (by simpa using hi)
    have e2 : ∀ L : List Nat, sumL (fun x => if I.n + x < I.n then g (I.n + x) else 0) L = 0 := by
      intro L; induction L with
      | nil => rfl
      | cons x L ih => simp only [sumL, ih]; rw [if_neg (by omega)]; rfl
    rw [e1, e2]; omega
  have hU : sumL U (List.range (I.n + I.vans)) = (A1.map f).sum := by
    show sumL (fun i => if i < I.n then outS A1 (·.1) f (i + 1) else 0) _ = _
    rw [hrow fun i => outS A1 (·.1) f (i + 1)]
    refine outS_all A1 (·.1) f I.n fun p hp => ?_
    obtain ⟨h1, h2⟩ := List.mem_filter.1 hp
    have := (arcs_range h p h1).1
    have h2' : p.1 ≠ 0 := by simpa using h2
    omega
  have hV : sumL V (List.range (I.n + I.vans)) = (A0.map f).sum := by
    show sumL (fun i => if i < I.n then outS A0 (·.2) f (i + 1) else 0) _ = _
    rw [hrow fun i => outS A0 (·.2) f (i + 1)]
    refine outS_all A0 (·.2) f I.n fun p hp => ?_
    obtain ⟨h1, h2⟩ := List.mem_filter.1 hp
    have := (arcs_range h p h1).2
    have h3 := arc_ne h p h1
    have h2' : p.1 = 0 := by simpa using h2
    omega
  have hall : (A1.map f).sum + (A0.map f).sum = costQ I R := by
    have : ∀ L : List (Nat × Nat), ((L.filter fun p => decide (p.1 ≠ 0)).map f).sum + ((L.filter fun p => decide (p.1 = 0)).map f).sum = (L.map f).sum := by
      intro L
      induction L with
      | nil => rfl
      | cons p L ih =>
        by_cases e : p.1 = 0
        · rw [List.filter_cons_of_neg (by simpa using e), List.filter_cons_of_pos (by simpa using e)]; simp only [List.map_cons, List.sum_cons]; omega
        · rw [List.filter_cons_of_pos (by simpa using e), List.filter_cons_of_neg (by simpa using e)]; simp only [List.map_cons, List.sum_cons]; omega
    exact this _
  have hund : ∀ i j, i < I.n + I.vans → j < I.n + I.vans → cellQ I T i j ≠ -1 → U i + V j ≤ cellQ I T i j := fun i j hi hj hc => by
    have hi2 := lineN_lt I.n i
    have hj2 := lineN_lt I.n j
    have hUi : U i = if lineN I.n i = 0 then 0 else outS A1 (·.1) f (lineN I.n i) := by
      show (if i < I.n then outS A1 (·.1) f (i + 1) else 0) = _
      unfold lineN
      by_cases c : i < I.n
      · simp only [if_pos c]; rw [if_neg (by omega)]
      · simp only [if_neg c, if_true]
    have hVj : V j = if lineN I.n j = 0 then 0 else outS A0 (·.2) f (lineN I.n j) := by
      show (if j < I.n then outS A0 (·.2) f (j + 1) else 0) = _
      unfold lineN
      by_cases c : j < I.n
      · simp only [if_pos c]; rw [if_neg (by omega)]
      · simp only [if_neg c, if_true]
    rw [hUi, hVj]
    unfold cellQ cellS at hc ⊢
    revert hc
    generalize lineN I.n i = a at *
    generalize lineN I.n j = b at *
    intro hc
    by_cases h00 : a = 0 ∧ b = 0
    · rw [if_pos h00, if_pos h00.1, if_pos h00.2]; omega
    · rw [if_neg h00] at hc ⊢
      by_cases hbad : a = b ∨ T a b = 2 ∨ feS I.n T a b = true
      · rw [if_pos hbad] at hc; exact absurd rfl hc
      · rw [if_neg hbad]
        have hab : a ≠ b := fun e => hbad (.inl e)
        have hm : (a, b) ∈ arcsQ R := by
          apply Classical.byContradiction
          intro hno
          exact hbad (.inr (.inl (hf.no a b (by omega) (by omega) hab hno)))
        by_cases ha : a = 0
        · have hb : b ≠ 0 := fun e => hab (by rw [ha, e])
          rw [if_pos ha, if_neg hb]
          have : outS A0 (·.2) f b = f (a, b) := outS_one hA0 (List.mem_filter.2 ⟨hm, by simpa using ha⟩) rfl fun q hq e => by
            have h1 := (List.mem_filter.1 hq).1
            have e2 : q = (q.1, b) := by rw [← e]
            rw [e2] at h1 ⊢
            rw [h.in_one hb h1 hm]
          rw [this]; show 0 + I.D a b ≤ I.D a b; omega
        · rw [if_neg ha]
          have h1 : outS A1 (·.1) f a = f (a, b) := outS_one hA1 (List.mem_filter.2 ⟨hm, by simpa using ha⟩) rfl fun q hq e => by
            have h1 := (List.mem_filter.1 hq).1
            have e2 : q = (a, q.2) := by rw [← e]
            rw [e2] at h1 ⊢
            rw [h.out_one ha h1 hm]
          rw [h1]
          by_cases hb : b = 0
          · rw [if_pos hb]; show I.D a b + 0 ≤ I.D a b; omega
          · rw [if_neg hb]
            have h2 : outS A0 (·.2) f b = 0 := outS_none fun q hq e => by
              obtain ⟨h1, h2⟩ := List.mem_filter.1 hq
              have e2 : q = (q.1, b) := by rw [← e]
              rw [e2] at h1
              have h3 := h.in_one hb h1 hm
              have h4 : q.1 = 0 := by simpa using h2
              omega
            rw [h2]; show I.D a b + 0 ≤ I.D a b; omega
  have hge := pick_dual hp ho hund
  rw [hU, hV, hsum] at hge
  omega
end Go.Proofs.Ytebinaopncclgaa
