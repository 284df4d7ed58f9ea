/- Plain: a match of the cells is a tour; a tour that no chain blocks is a plan. No program in sight. -/
import Derived.Test.YtebinaopncclgabQCell
namespace Go.Proofs.Ytebinaopncclgab

theorem tight_pick {N : Nat} {C : Nat → Nat → Int} {col u v : Nat → Int} {cost : Int} (ht : Tight N C col u v cost) : Pick N ((List.range N).map fun i => (i, (col i).toNat)) ∧ (∀ p ∈ (List.range N).map fun i => (i, (col i).toNat), C p.1 p.2 ≠ -1) ∧ (((List.range N).map fun i => (i, (col i).toNat)).map fun p => C p.1 p.2).sum = cost := by
  have hc : ∀ i, i < N → (col i).toNat < N ∧ C i (col i).toNat ≠ -1 := fun i hi => by
    obtain ⟨k, h1, h2, h3⟩ := ht.tcol i hi
    rw [h1]; exact ⟨by simpa using h2, by simpa using h3⟩
  refine ⟨⟨?_, fun p hp => ?_, by simp, ?_⟩, fun p hp => ?_, ?_⟩
  · rw [List.map_map]
    have : (List.range N).map ((fun p : Nat × Nat => p.1) ∘ fun i => (i, (col i).toNat)) = List.range N := by
      have : (List.range N).map ((fun p : Nat × Nat => p.1) ∘ fun i => (i, (col i).toNat)) = (List.range N).map id := List.map_congr_left fun _ _ => rfl
      rw [this, List.map_id]
    rw [this]; exact List.nodup_range
  · obtain ⟨i, hi, rfl⟩ := List.mem_map.1 hp
    have hi' : i < N := by simpa using hi
    exact ⟨hi', (hc i hi').1⟩
  · rw [List.map_map]
    refine nodup_map_on List.nodup_range fun a ha b hb e => ?_
    have ha' : a < N := by simpa using ha
    have hb' : b < N := by simpa using hb
    obtain ⟨k, h1, _⟩ := ht.tcol a ha'
    obtain ⟨m, h2, _⟩ := ht.tcol b hb'
    refine ht.one a b ha' hb' ?_
    simp only [Function.comp] at e
    omega
  · obtain ⟨i, hi, rfl⟩ := List.mem_map.1 hp
    exact (hc i (by simpa using hi)).2
  · rw [ht.tcost, List.map_map]
    have : ∀ L : List Nat, (L.map ((fun p : Nat × Nat => C p.1 p.2) ∘ fun i => (i, (col i).toNat))).sum = sumL (fun i => C i (col i).toNat) L := by
      intro L
      induction L with
      | nil => rfl
      | cons x L ih => simp only [List.map_cons, List.sum_cons, sumL, ih]; rfl
    exact this _
/- sums over arcs that leave a site -/
def outS (A : List (Nat × Nat)) (g : Nat × Nat → Nat) (f : Nat × Nat → Int) (x : Nat) : Int := ((A.filter fun p => decide (g p = x)).map f).sum
theorem outS_cons (p : Nat × Nat) (A : List (Nat × Nat)) (g : Nat × Nat → Nat) (f : Nat × Nat → Int) (x : Nat) : outS (p :: A) g f x = (if g p = x then f p else 0) + outS A g f x := by
  unfold outS
  by_cases h : g p = x
  · rw [List.filter_cons_of_pos (by simpa using h), if_pos h]; simp
  · rw [List.filter_cons_of_neg (by simpa using h), if_neg h]; simp
theorem outS_all (A : List (Nat × Nat)) (g : Nat × Nat → Nat) (f : Nat × Nat → Int) (n : Nat) (h : ∀ p ∈ A, 1 ≤ g p ∧ g p ≤ n) : sumL (fun i => outS A g f (i + 1)) (List.range n) = (A.map f).sum := by
  induction A with
  | nil =>
    have : ∀ L : List Nat, sumL (fun i => outS [] g f (i + 1)) L = 0 := by
      intro L; induction L with
      | nil => rfl
      | cons x L ih => simp only [sumL, ih]; rfl
    rw [this]; rfl
  | cons p A ih =>
    have h1 := h p (by simp)
    have e : sumL (fun i => outS (p :: A) g f (i + 1)) (List.range n) = sumL (fun i => if g p = i + 1 then f p else 0) (List.range n) + sumL (fun i => outS A g f (i + 1)) (List.range n) := by
      rw [← sumL_add]; exact sumL_congr fun i _ => outS_cons p A g f (i + 1)
    have e2 : ∀ m, sumL (fun i => if g p = i + 1 then f p else 0) (List.range m) = if g p ≤ m then f p else 0 := by
      intro m
      induction m with
      | zero => rw [if_neg (by omega)]; rfl
      | succ m ih =>
        rw [List.range_succ, sumL_append, ih]
        simp only [sumL]
        by_cases c1 : g p ≤ m
        · rw [if_pos c1, if_neg (by omega), if_pos (by omega)]; omega
        · by_cases c2 : g p = m + 1
          · rw [if_neg c1, if_pos c2, if_pos (by omega)]; omega
          · rw [if_neg c1, if_neg c2, if_neg (by omega)]; omega
    rw [e, e2, if_pos h1.2, ih fun q hq => h q (by simp [hq])]; simp
theorem outS_one {A : List (Nat × Nat)} {g : Nat × Nat → Nat} {f : Nat × Nat → Int} {x : Nat} {p : Nat × Nat} (hn : A.Nodup) (hp : p ∈ A) (hg : g p = x) (h1 : ∀ q ∈ A, g q = x → q = p) : outS A g f x = f p := by
  induction A with
  | nil => cases hp
  | cons q A ih =>
    rw [outS_cons]
    have hn' := List.nodup_cons.1 hn
    by_cases e : q = p
    · subst e
      rw [if_pos hg]
      have : outS A g f x = 0 := by
        unfold outS
        have : A.filter (fun p => decide (g p = x)) = [] := by
          rw [List.filter_eq_nil_iff]
          intro y hy hc
          exact hn'.1 (h1 y (by simp [hy]) (by simpa using hc) ▸ hy)
        rw [this]; rfl
      omega
    · rw [if_neg fun h => e (h1 q (by simp) h)]
      have hp' : p ∈ A := by
        rcases List.mem_cons.1 hp with h | h
        · exact absurd h.symm e
        · exact h
      rw [ih hn'.2 hp' fun y hy => h1 y (by simp [hy])]; omega
theorem outS_none {A : List (Nat × Nat)} {g : Nat × Nat → Nat} {f : Nat × Nat → Int} {x : Nat} (h : ∀ q ∈ A, g q ≠ x) : outS A g f x = 0 := by
  unfold outS
  have : A.filter (fun p => decide (g p = x)) = [] := by
    rw [List.filter_eq_nil_iff]
    intro y hy hc
    exact h y hy (by simpa using hc)
  rw [this]; rfl
theorem arcs_nodup {I : Ins} {R : List (List Nat)} (h : PlanQ I R) : (arcsQ R).Nodup := by
  have key : ∀ L : List (Nat × Nat), (∀ p ∈ L, p.1 ≠ 0 ∨ p.2 ≠ 0) → ((L.map (·.1)).filter fun s => decide (s ≠ 0)).Nodup → ((L.map (·.2)).filter fun s => decide (s ≠ 0)).Nodup → L.Nodup := by
    intro L
    induction L with
    | nil => intro _ _ _; exact List.nodup_nil
    | cons p L ih =>
      intro h0 h1 h2
      have h1' : ((L.map (·.1)).filter fun s => decide (s ≠ 0)).Nodup := by
        rw [List.map_cons] at h1
        by_cases e : p.1 = 0
        · rwa [List.filter_cons_of_neg (by simpa using e)] at h1
        · rw [List.filter_cons_of_pos (by simpa using e)] at h1; exact (List.nodup_cons.1 h1).2
      have h2' : ((L.map (·.2)).filter fun s => decide (s ≠ 0)).Nodup := by
        rw [List.map_cons] at h2
        by_cases e : p.2 = 0
        · rwa [List.filter_cons_of_neg (by simpa using e)] at h2
        · rw [List.filter_cons_of_pos (by simpa using e)] at h2; exact (List.nodup_cons.1 h2).2
      refine List.nodup_cons.2 ⟨fun hm => ?_, ih (fun q hq => h0 q (by simp [hq])) h1' h2'⟩
      rcases h0 p (by simp) with e | e
      · rw [List.map_cons, List.filter_cons_of_pos (by simpa using e)] at h1
        exact (List.nodup_cons.1 h1).1 (List.mem_filter.2 ⟨List.mem_map.2 ⟨p, hm, rfl⟩, by simpa using e⟩)
      · rw [List.map_cons, List.filter_cons_of_pos (by simpa using e)] at h2
        exact (List.nodup_cons.1 h2).1 (List.mem_filter.2 ⟨List.mem_map.2 ⟨p, hm, rfl⟩, by simpa using e⟩)
  refine key _ (fun p hp => ?_) (by rw [arcsQ_fst h.nz]; exact h.once) (by rw [arcsQ_snd h.nz]; exact h.once)
  have := arc_ne h p hp
  omega
/- all arcs decided -/
structure FullQ (n : Nat) (T : Nat → Nat → Int) (R : List (List Nat)) : Prop where
  yes : ∀ a b, a ≤ n → b ≤ n → (a, b) ∈ arcsQ R → T a b = 1
  no : ∀ a b, a ≤ n → b ≤ n → a ≠ b → (a, b) ∉ arcsQ R → T a b = 2
  same : ∀ a, T a a = 0
theorem full_along {I : Ins} {R : List (List Nat)} {T : Nat → Nat → Int} (h : FullQ I.n T R) : Along I.n T R := fun a b ha hb => by
  by_cases hm : (a, b) ∈ arcsQ R
  · have := h.yes a b ha hb hm; exact ⟨fun _ => hm, fun e => by omega⟩
  · by_cases e : a = b
    · subst e; have := h.same a; exact ⟨fun e => by omega, fun _ => hm⟩
    · have := h.no a b ha hb e hm; exact ⟨fun e => by omega, fun _ => hm⟩
theorem full_least {I : Ins} {R : List (List Nat)} {T : Nat → Nat → Int} (h : PlanQ I R) (hf : FullQ I.n T R) {col u v : Nat → Int} {cost : Int} (ht : Tight (I.n + I.vans) (cellQ I T) col u v cost) : cost = costQ I R := by
  have hle := plan_tight h (full_along hf) ht
  obtain ⟨hp, ho, hsum⟩ := tight_pick ht
  have hnd := arcs_nodup h
  let A1 := (arcsQ R).filter fun p => decide (p.1 ≠ 0)
  let A0 := (arcsQ R).filter fun p => decide (p.1 = 0)
  have hA1 : A1.Nodup := List.filter_sublist.nodup hnd
  have hA0 : A0.Nodup := List.filter_sublist.nodup hnd
  let f : Nat × Nat → Int := fun p => I.D p.1 p.2
  let U : Nat → Int := fun i => if i < I.n then outS A1 (·.1) f (i + 1) else 0
  let V : Nat → Int := fun j => if j < I.n then outS A0 (·.2) f (j + 1) else 0
  have hrow : ∀ g : Nat → Int, sumL (fun i => if i < I.n then g i else 0) (List.range (I.n + I.vans)) = sumL g (List.range I.n) := fun g => by
    rw [List.range_add, sumL_append, sumL_map]
    have e1 : sumL (fun i => if i < I.n then g i else 0) (List.range I.n) = sumL g (List.range I.n) := sumL_congr fun i hi => if_pos (by simpa using hi)
    have e2 : ∀ L : List Nat, sumL (fun x => if I.n + x < I.n then g (I.n + x) else 0) L = 0 := by
      intro L; induction L with
      | nil => rfl
      | cons x L ih => simp only [sumL, ih]; rw [if_neg (by omega)]; rfl
    rw [e1, e2]; omega
  have hU : sumL U (List.range (I.n + I.vans)) = (A1.map f).sum := by
    show sumL (fun i => if i < I.n then outS A1 (·.1) f (i + 1) else 0) _ = _
    rw [hrow fun i => outS A1 (·.1) f (i + 1)]
    refine outS_all A1 (·.1) f I.n fun p hp => ?_
    obtain ⟨h1, h2⟩ := List.mem_filter.1 hp
    have := (arcs_range h p h1).1
    have h2' : p.1 ≠ 0 := by simpa using h2
    omega
  have hV : sumL V (List.range (I.n + I.vans)) = (A0.map f).sum := by
    show sumL (fun i => if i < I.n then outS A0 (·.2) f (i + 1) else 0) _ = _
    rw [hrow fun i => outS A0 (·.2) f (i + 1)]
    refine outS_all A0 (·.2) f I.n fun p hp => ?_
    obtain ⟨h1, h2⟩ := List.mem_filter.1 hp
    have := (arcs_range h p h1).2
    have h3 := arc_ne h p h1
    have h2' : p.1 = 0 := by simpa using h2
    omega
  have hall : (A1.map f).sum + (A0.map f).sum = costQ I R := by
    have : ∀ L : List (Nat × Nat), ((L.filter fun p => decide (p.1 ≠ 0)).map f).sum + ((L.filter fun p => decide (p.1 = 0)).map f).sum = (L.map f).sum := by
      intro L
      induction L with
      | nil => rfl
      | cons p L ih =>
        by_cases e : p.1 = 0
        · rw [List.filter_cons_of_neg (by simpa using e), List.filter_cons_of_pos (by simpa using e)]; simp only [List.map_cons, List.sum_cons]; omega
        · rw [List.filter_cons_of_pos (by simpa using e), List.filter_cons_of_neg (by simpa using e)]; simp only [List.map_cons, List.sum_cons]; omega
    exact this _
  have hund : ∀ i j, i < I.n + I.vans → j < I.n + I.vans → cellQ I T i j ≠ -1 → U i + V j ≤ cellQ I T i j := fun i j hi hj hc => by
    have hi2 := lineN_lt I.n i
    have hj2 := lineN_lt I.n j
    have hUi : U i = if lineN I.n i = 0 then 0 else outS A1 (·.1) f (lineN I.n i) := by
      show (if i < I.n then outS A1 (·.1) f (i + 1) else 0) = _
      unfold lineN
      by_cases c : i < I.n
      · simp only [if_pos c]; rw [if_neg (by omega)]
      · simp only [if_neg c, if_true]
    have hVj : V j = if lineN I.n j = 0 then 0 else outS A0 (·.2) f (lineN I.n j) := by
      show (if j < I.n then outS A0 (·.2) f (j + 1) else 0) = _
      unfold lineN
      by_cases c : j < I.n
      · simp only [if_pos c]; rw [if_neg (by omega)]
      · simp only [if_neg c, if_true]
    rw [hUi, hVj]
    unfold cellQ cellS at hc ⊢
    revert hc
    generalize lineN I.n i = a at *
    generalize lineN I.n j = b at *
    intro hc
    by_cases h00 : a = 0 ∧ b = 0
    · rw [if_pos h00, if_pos h00.1, if_pos h00.2]; omega
    · rw [if_neg h00] at hc ⊢
      by_cases hbad : a = b ∨ T a b = 2 ∨ feS I.n T a b = true
      · rw [if_pos hbad] at hc; exact absurd rfl hc
      · rw [if_neg hbad]
        have hab : a ≠ b := fun e => hbad (.inl e)
        have hm : (a, b) ∈ arcsQ R := by
          apply Classical.byContradiction
          intro hno
          exact hbad (.inr (.inl (hf.no a b (by omega) (by omega) hab hno)))
        by_cases ha : a = 0
        · have hb : b ≠ 0 := fun e => hab (by rw [ha, e])
          rw [if_pos ha, if_neg hb]
          have : outS A0 (·.2) f b = f (a, b) := outS_one hA0 (List.mem_filter.2 ⟨hm, by simpa using ha⟩) rfl fun q hq e => by
            have h1 := (List.mem_filter.1 hq).1
            have e2 : q = (q.1, b) := by rw [← e]
            rw [e2] at h1 ⊢
            rw [h.in_one hb h1 hm]
          rw [this]; show 0 + I.D a b ≤ I.D a b; omega
        · rw [if_neg ha]
          have h1 : outS A1 (·.1) f a = f (a, b) := outS_one hA1 (List.mem_filter.2 ⟨hm, by simpa using ha⟩) rfl fun q hq e => by
            have h1 := (List.mem_filter.1 hq).1
            have e2 : q = (a, q.2) := by rw [← e]
            rw [e2] at h1 ⊢
            rw [h.out_one ha h1 hm]
          rw [h1]
          by_cases hb : b = 0
          · rw [if_pos hb]; show I.D a b + 0 ≤ I.D a b; omega
          · rw [if_neg hb]
            have h2 : outS A0 (·.2) f b = 0 := outS_none fun q hq e => by
              obtain ⟨h1, h2⟩ := List.mem_filter.1 hq
              have e2 : q = (q.1, b) := by rw [← e]
              rw [e2] at h1
              have h3 := h.in_one hb h1 hm
              have h4 : q.1 = 0 := by simpa using h2
              omega
            rw [h2]; show I.D a b + 0 ≤ I.D a b; omega
  have hge := pick_dual hp ho hund
  rw [hU, hV, hsum] at hge
  omega
end Go.Proofs.Ytebinaopncclgab
namespace Go.Proofs.Ytebinaopncclgab

structure TourQ (I : Ins) (bh : Nat → Nat) (fs : List Nat) : Prop where
  rng : ∀ s, 1 ≤ s → s ≤ I.n → bh s ≤ I.n
  fr : ∀ f ∈ fs, 1 ≤ f ∧ f ≤ I.n
  few : fs.length ≤ I.vans
  fnd : fs.Nodup
  inj : ∀ s t, 1 ≤ s → s ≤ I.n → 1 ≤ t → t ≤ I.n → bh s = bh t → bh s ≠ 0 → s = t
  sep : ∀ s, 1 ≤ s → s ≤ I.n → bh s ∉ fs
  all : ∀ b, 1 ≤ b → b ≤ I.n → b ∈ fs ∨ ∃ s, 1 ≤ s ∧ s ≤ I.n ∧ bh s = b
/- from a site on to the depot -/
inductive PathQ (bh : Nat → Nat) : Nat → List Nat → Prop
  | home : PathQ bh 0 []
  | next {x : Nat} {d : List Nat} : x ≠ 0 → PathQ bh (bh x) d → PathQ bh x (bh x :: d)
theorem PathQ.one {bh : Nat → Nat} {x : Nat} {d : List Nat} (h : PathQ bh x d) : ∀ {e : List Nat}, PathQ bh x e → d = e := by
  induction h with
  | home => intro e he; cases he with
    | home => rfl
    | next h0 _ => exact absurd rfl h0
  | next h0 _ ih => intro e he; cases he with
    | home => exact absurd rfl h0
    | next _ h2 => rw [ih h2]
def rtQ (bh : Nat → Nat) : Nat → Nat → List Nat
  | 0, _ => []
  | f + 1, s => if s = 0 then [] else s :: rtQ bh f (bh s)
theorem rtQ_path {bh : Nat → Nat} {x : Nat} {d : List Nat} (h : PathQ bh x d) : ∀ f, d.length ≤ f → x :: d = rtQ bh f x ++ [0] ∧ (rtQ bh f x).map bh = d := by
  induction h with
  | home =>
    intro f _
    cases f with
    | zero => exact ⟨rfl, rfl⟩
    | succ f => unfold rtQ; rw [if_pos rfl]; exact ⟨rfl, rfl⟩
  | next h0 _ ih =>
    intro f hf
    cases f with
    | zero => simp at hf
    | succ f =>
      obtain ⟨h1, h2⟩ := ih f (by simpa using hf)
      unfold rtQ
      rw [if_neg h0]
      exact ⟨by rw [List.cons_append, ← h1], by rw [List.map_cons, h2]⟩
/- a chain goes on along the tour until it is blocked or at home -/
open Classical in
noncomputable def blkQ (I : Ins) (bh : Nat → Nat) : Nat → List Nat → List Nat
  | 0, _ => []
  | f + 1, c => if BlockedQ I c then c else if c.getLast?.getD 0 = 0 then [] else blkQ I bh f (c ++ [bh (c.getLast?.getD 0)])
theorem last_snoc (c : List Nat) (x : Nat) : (c ++ [x]).getLast?.getD 0 = x := by simp
/- along the tour -/
def OnTour (bh : Nat → Nat) (fs : List Nat) (c : List Nat) : Prop := ∀ p ∈ nbr c, (p.1 ≠ 0 ∧ p.2 = bh p.1) ∨ (p.1 = 0 ∧ p.2 ∈ fs)
theorem nbr_snoc (c : List Nat) (x : Nat) (h : c ≠ []) : nbr (c ++ [x]) = nbr c ++ [(c.getLast?.getD 0, x)] := by
  obtain ⟨a, y, rfl⟩ : ∃ a y, c = a ++ [y] := ⟨c.dropLast, c.getLast h, (List.dropLast_concat_getLast h).symm⟩
  rw [last_snoc, List.append_assoc]
  show nbr (a ++ y :: [x]) = _
  rw [nbr_app]; rfl
structure ChainOk (I : Ins) (bh : Nat → Nat) (fs : List Nat) (c : List Nat) : Prop where
  ne : c ≠ []
  rng : ∀ s ∈ c, s ≤ I.n
  on : OnTour bh fs c
  ends : ∀ u v, c = u ++ 0 :: v → u = [] ∨ v = []
theorem ChainOk.snoc {I : Ins} {bh : Nat → Nat} {fs : List Nat} {c : List Nat} (ht : TourQ I bh fs) (h : ChainOk I bh fs c) (h0 : c.getLast?.getD 0 ≠ 0) : ChainOk I bh fs (c ++ [bh (c.getLast?.getD 0)]) := by
  have hl : c.getLast?.getD 0 ∈ c := by
    obtain ⟨a, y, rfl⟩ : ∃ a y, c = a ++ [y] := ⟨c.dropLast, c.getLast h.ne, (List.dropLast_concat_getLast h.ne).symm⟩
    rw [last_snoc]; simp
  refine ⟨by simp, fun s hs => ?_, fun p hp => ?_, fun u v e => ?_⟩
  · rcases List.mem_append.1 hs with e | e
    · exact h.rng s e
    · simp only [List.mem_singleton] at e
      rw [e]; exact ht.rng _ (by omega) (h.rng _ hl)
  · rw [nbr_snoc c _ h.ne] at hp
    rcases List.mem_append.1 hp with e | e
    · exact h.on p e
    · simp only [List.mem_singleton] at e
      rw [e]; exact .inl ⟨h0, rfl⟩
  · by_cases hv : v = []
    · exact .inr hv
    · left
      obtain ⟨v', y, rfl⟩ : ∃ v' y, v = v' ++ [y] := ⟨v.dropLast, v.getLast hv, (List.dropLast_concat_getLast hv).symm⟩
      have e2 : c ++ [bh (c.getLast?.getD 0)] = (u ++ 0 :: v') ++ [y] := by rw [e]; simp
      have e3 := (List.append_inj' e2 rfl).1
      rcases h.ends u v' e3 with h1 | h1
      · exact h1
      · subst h1
        rw [e3, last_snoc] at h0
        exact absurd rfl h0
theorem blk_some {I : Ins} {bh : Nat → Nat} {fs : List Nat} (ht : TourQ I bh fs) : ∀ (f : Nat) (c : List Nat), ChainOk I bh fs c → c.length + f = 10 → blkQ I bh f c ≠ [] → ChainOk I bh fs (blkQ I bh f c) ∧ BlockedQ I (blkQ I bh f c) ∧ (blkQ I bh f c).length ≤ 9 := by
  intro f
  induction f with
  | zero => intro c _ _ h; exact absurd rfl h
  | succ f ih =>
    intro c hc hl h
    unfold blkQ at h ⊢
    by_cases hb : BlockedQ I c
    · rw [if_pos hb]; exact ⟨hc, hb, by omega⟩
    · rw [if_neg hb] at h ⊢
      by_cases h0 : c.getLast?.getD 0 = 0
      · rw [if_pos h0] at h; exact absurd rfl h
      · rw [if_neg h0] at h ⊢
        exact ih _ (hc.snoc ht h0) (by simp; omega) h
theorem blk_none {I : Ins} {bh : Nat → Nat} {fs : List Nat} (hn : I.n ≤ 7) (ht : TourQ I bh fs) : ∀ (f : Nat) (c : List Nat), ChainOk I bh fs c → c.length + f = 10 → (f = 0 → ¬ twiceQ c) → (∀ s ∈ c.tail, s ≠ 0) ∨ (∃ a, c = a ++ [0] ∧ (∀ s ∈ a.tail, s ≠ 0)) → blkQ I bh f c = [] → ∃ d, PathQ bh (c.getLast?.getD 0) d ∧ ¬ BlockedQ I (c ++ d) := by
  intro f
  induction f with
  | zero =>
    intro c hc hl htw hz _
    exfalso
    have hlen : c.length = 10 := by omega
    have hnd := Classical.not_not.1 (htw rfl)
    have h1 := nodup_sub _ ((List.range I.n).map (· + 1)) hnd fun s hs => by
      obtain ⟨h1, h2⟩ := List.mem_filter.1 hs
      have h3 := hc.rng s h1
      have h4 : s ≠ 0 := by simpa using h2
      exact List.mem_map.2 ⟨s - 1, by simp; omega, by omega⟩
    rw [List.length_map, List.length_range] at h1
    have hf : ∀ (l : List Nat), (∀ s ∈ l, s ≠ 0) → (l.filter fun s => decide (s ≠ 0)) = l := fun l h => filter_all h
    rcases hz with hz | ⟨a, rfl, hz⟩
    · cases c with
      | nil => simp at hlen
      | cons x c =>
        have h2 : (c.filter fun s => decide (s ≠ 0)).length ≤ ((x :: c).filter fun s => decide (s ≠ 0)).length := by
          rw [List.filter_cons]; split <;> simp
        rw [hf c (by simpa using hz)] at h2
        simp at hlen; omega
    · rw [List.filter_append, List.length_append] at h1
      cases a with
      | nil => simp at hlen
      | cons x a =>
        have h2 : (a.filter fun s => decide (s ≠ 0)).length ≤ ((x :: a).filter fun s => decide (s ≠ 0)).length := by
          rw [List.filter_cons]; split <;> simp
        rw [hf a (by simpa using hz)] at h2
        simp at hlen; omega
  | succ f ih =>
    intro c hc hl htw hz h
    unfold blkQ at h
    by_cases hb : BlockedQ I c
    · rw [if_pos hb] at h; exact absurd h hc.ne
    · rw [if_neg hb] at h
      by_cases h0 : c.getLast?.getD 0 = 0
      · refine ⟨[], ?_, by simpa using hb⟩
        rw [h0]; exact .home
      · rw [if_neg h0] at h
        have hcz : ∀ s ∈ c.tail, s ≠ 0 := by
          rcases hz with hz | ⟨a, rfl, _⟩
          · exact hz
          · rw [last_snoc] at h0; exact absurd rfl h0
        have hc' := hc.snoc ht h0
        by_cases hb' : twiceQ (c ++ [bh (c.getLast?.getD 0)])
        · -- it is blocked there
          cases f with
          | zero =>
            exfalso
            -- nine sites, all apart
            have hnd : (c.filter fun s => decide (s ≠ 0)).Nodup := by
              apply Classical.byContradiction
              intro hno
              exact hb ⟨.inl hno⟩
            have h1 := nodup_sub _ ((List.range I.n).map (· + 1)) hnd fun s hs => by
              obtain ⟨h1, h2⟩ := List.mem_filter.1 hs
              have h3 := hc.rng s h1
              have h4 : s ≠ 0 := by simpa using h2
              exact List.mem_map.2 ⟨s - 1, by simp; omega, by omega⟩
            rw [List.length_map, List.length_range] at h1
            cases c with
            | nil => exact hc.ne rfl
            | cons x c =>
              have h2 : (c.filter fun s => decide (s ≠ 0)).length ≤ ((x :: c).filter fun s => decide (s ≠ 0)).length := by
                rw [List.filter_cons]; split <;> simp
              rw [filter_all (by simpa using hcz)] at h2
              simp at hl; omega
          | succ f =>
            unfold blkQ at h
            rw [if_pos ⟨.inl hb'⟩] at h
            simp at h
        · obtain ⟨d, h1, h2⟩ := ih _ hc' (by simp; omega) (fun _ => hb') (by
            by_cases e : bh (c.getLast?.getD 0) = 0
            · right
              exact ⟨c, by rw [e], hcz⟩
            · left
              cases c with
              | nil => exact absurd rfl hc.ne
              | cons x c =>
                intro s hs
                simp only [List.cons_append, List.tail_cons] at hs hcz
                rcases List.mem_append.1 hs with k | k
                · exact hcz s k
                · simp only [List.mem_singleton] at k; rw [k]; exact e) h
          rw [last_snoc] at h1
          exact ⟨_, .next h0 h1, by simpa using h2⟩
/- counting the stops of the routes -/
theorem count_map_one {bh : Nat → Nat} {s p : Nat} : ∀ (L : List Nat), (∀ q ∈ L, bh q = s → q = p) → bh p = s → (L.map bh).count s = L.count p := by
  intro L
  induction L with
  | nil => intro _ _; rfl
  | cons q L ih =>
    intro h hp
    rw [List.map_cons, List.count_cons, List.count_cons, ih (fun x hx => h x (by simp [hx])) hp]
    by_cases e : q = p
    · rw [e]; simp [hp]
    · have : bh q ≠ s := fun h' => e (h q (by simp) h')
      simp [e, this]
theorem count_map_none {bh : Nat → Nat} {s : Nat} (L : List Nat) (h : ∀ q ∈ L, bh q ≠ s) : (L.map bh).count s = 0 := by
  rw [List.count_eq_zero]
  intro hm
  obtain ⟨q, hq, e⟩ := List.mem_map.1 hm
  exact h q hq e
theorem nodup_count {L : List Nat} (h : ∀ s ∈ L, L.count s = 1) : L.Nodup := by
  induction L with
  | nil => exact List.nodup_nil
  | cons x L ih =>
    have hx := h x (by simp)
    rw [List.count_cons_self] at hx
    have hnot : x ∉ L := List.count_eq_zero.1 (by omega)
    refine List.nodup_cons.2 ⟨hnot, ih fun s hs => ?_⟩
    have := h s (by simp [hs])
    rw [List.count_cons] at this
    have hne : ¬ x = s := fun e => hnot (e ▸ hs)
    simp [hne] at this
    exact this
theorem begin_stop {I : Ins} (bh : Nat → Nat) (fs : List Nat) {s : Nat} (h : s ≤ I.n) : ChainOk I bh fs [s] := by
  refine ⟨by simp, by simpa using h, fun p hp => absurd hp (by simp [nbr]), fun u v e => ?_⟩
  cases u with
  | nil => exact .inl rfl
  | cons x u => simp at e
theorem begin_van {I : Ins} (bh : Nat → Nat) {fs : List Nat} {f : Nat} (hf : f ∈ fs) (h : 1 ≤ f ∧ f ≤ I.n) : ChainOk I bh fs [0, f] := by
  refine ⟨by simp, fun s hs => ?_, fun p hp => ?_, fun u v e => ?_⟩
  · simp only [List.mem_cons, List.not_mem_nil, or_false] at hs; omega
  · have : p = (0, f) := by simpa [nbr] using hp
    rw [this]; exact .inr ⟨rfl, hf⟩
  · cases u with
    | nil => exact .inl rfl
    | cons x u =>
      cases u with
      | nil => simp only [List.cons_append, List.nil_append, List.cons.injEq] at e; omega
      | cons y u => simp at e
theorem tour_plan {I : Ins} (hI : InsOk I) (hn : I.n ≤ 7) {bh : Nat → Nat} {fs : List Nat} (ht : TourQ I bh fs)
    (hs : ∀ s, 1 ≤ s → s ≤ I.n → blkQ I bh 9 [s] = []) (hf : ∀ f ∈ fs, blkQ I bh 8 [0, f] = []) : PlanQ I (fs.map (rtQ bh 7)) ∧ (∀ f ∈ fs, ∃ d, PathQ bh f d) := by
  have hpath : ∀ s, 1 ≤ s → s ≤ I.n → ∃ d, PathQ bh s d ∧ d.length ≤ 8 := fun s h1 h2 => by
    obtain ⟨d, h3, h4⟩ := blk_none (fs := fs) hn ht 9 [s] (begin_stop bh fs h2) rfl (fun h => absurd h (by omega)) (.inl fun x hx => absurd hx (by simp)) (hs s h1 h2)
    have h3' : PathQ bh s d := by simpa using h3
    refine ⟨d, h3', ?_⟩
    have hnd : (([s] ++ d).filter fun s => decide (s ≠ 0)).Nodup := Classical.byContradiction fun hno => h4 ⟨.inl hno⟩
    have hr : ∀ x d, PathQ bh x d → x ≤ I.n → ∀ y ∈ d, y ≤ I.n := by
      intro x d hp
      induction hp with
      | home => intro _ y hy; cases hy
      | @next x' d' h0 _ ih =>
        intro hx y hy
        have hb := ht.rng x' (by omega) hx
        rcases List.mem_cons.1 hy with e | e
        · rw [e]; exact hb
        · exact ih hb y e
    have hcnt := nodup_sub _ ((List.range I.n).map (· + 1)) hnd fun y hy => by
      obtain ⟨h5, h6⟩ := List.mem_filter.1 hy
      have h7 : y ≤ I.n := by
        rcases List.mem_append.1 h5 with e | e
        · simp only [List.mem_singleton] at e; omega
        · exact hr s d h3' h2 y e
      have h8 : y ≠ 0 := by simpa using h6
      exact List.mem_map.2 ⟨y - 1, by simp; omega, by omega⟩
    rw [List.length_map, List.length_range] at hcnt
    have hfil : ∀ x d, PathQ bh x d → d.length ≤ ((x :: d).filter fun s => decide (s ≠ 0)).length := by
      intro x d hp
      induction hp with
      | home => simp
      | next h0 _ ih => rw [List.filter_cons_of_pos (by simpa using h0)]; simp only [List.length_cons]; omega
    have := hfil s d h3'
    simp only [List.singleton_append] at hcnt
    omega
  have hroute : ∀ f ∈ fs, ∃ d, PathQ bh f d ∧ d.length ≤ 7 ∧ ¬ BlockedQ I (0 :: f :: d) := fun f hf' => by
    have hfr := ht.fr f hf'
    obtain ⟨d, h3, h4⟩ := blk_none (fs := fs) hn ht 8 [0, f] (begin_van bh hf' hfr) rfl (fun h => absurd h (by omega)) (.inl fun x hx => by simp only [List.tail_cons, List.mem_singleton] at hx; omega) (hf f hf')
    have h3' : PathQ bh f d := by simpa using h3
    refine ⟨d, h3', ?_, by simpa using h4⟩
    have hnd : ((0 :: f :: d).filter fun s => decide (s ≠ 0)).Nodup := Classical.byContradiction fun hno => h4 ⟨.inl hno⟩
    have hr : ∀ x d, PathQ bh x d → x ≤ I.n → ∀ y ∈ d, y ≤ I.n := by
      intro x d hp
      induction hp with
      | home => intro _ y hy; cases hy
      | @next x' d' h0 _ ih =>
        intro hx y hy
        have hb := ht.rng x' (by omega) hx
        rcases List.mem_cons.1 hy with e | e
        · rw [e]; exact hb
        · exact ih hb y e
    have hcnt := nodup_sub _ ((List.range I.n).map (· + 1)) hnd fun y hy => by
      obtain ⟨h5, h6⟩ := List.mem_filter.1 hy
      have h8 : y ≠ 0 := by simpa using h6
      have h7 : y ≤ I.n := by
        rcases List.mem_cons.1 h5 with e | e
        · omega
        · rcases List.mem_cons.1 e with e | e
          · omega
          · exact hr f d h3' hfr.2 y e
      exact List.mem_map.2 ⟨y - 1, by simp; omega, by omega⟩
    rw [List.length_map, List.length_range] at hcnt
    have hfil : ∀ x d, PathQ bh x d → d.length ≤ ((x :: d).filter fun s => decide (s ≠ 0)).length := by
      intro x d hp
      induction hp with
      | home => simp
      | next h0 _ ih => rw [List.filter_cons_of_pos (by simpa using h0)]; simp only [List.length_cons]; omega
    have h9 := hfil f d h3'
    rw [List.filter_cons_of_neg (by simp)] at hcnt
    omega
  have hsnoc : ∀ f ∈ fs, 0 :: (rtQ bh 7 f ++ [0]) = 0 :: f :: (rtQ bh 7 f).map bh := fun f hf' => by
    obtain ⟨d, h1, h2, _⟩ := hroute f hf'
    obtain ⟨h3, h4⟩ := rtQ_path h1 7 h2
    rw [← h3, h4]
  have hfree : ∀ f ∈ fs, ¬ BlockedQ I (0 :: (rtQ bh 7 f ++ [0])) := fun f hf' => by
    obtain ⟨d, h1, h2, h3⟩ := hroute f hf'
    obtain ⟨h4, _⟩ := rtQ_path h1 7 h2
    rw [← h4]; exact h3
  have hmem : ∀ (k x : Nat), x ≤ I.n → ∀ y ∈ rtQ bh k x, 1 ≤ y ∧ y ≤ I.n := by
    intro k
    induction k with
    | zero => intro x _ y hy; cases hy
    | succ k ih =>
      intro x hx y hy
      unfold rtQ at hy
      by_cases h0 : x = 0
      · rw [if_pos h0] at hy; cases hy
      · rw [if_neg h0] at hy
        rcases List.mem_cons.1 hy with e | e
        · omega
        · exact ih (bh x) (ht.rng x (by omega) hx) y e
  have hstops : ∀ s ∈ (fs.map (rtQ bh 7)).flatten, 1 ≤ s ∧ s ≤ I.n := fun s hs' => by
    obtain ⟨ρ, hρ, h1⟩ := List.mem_flatten.1 hs'
    obtain ⟨f, hf', rfl⟩ := List.mem_map.1 hρ
    exact hmem 7 f (ht.fr f hf').2 s h1
  have hcnt : ∀ s, s ≠ 0 → (fs.map (rtQ bh 7)).flatten.count s = fs.count s + ((fs.map (rtQ bh 7)).flatten.map bh).count s := by
    intro s hs0
    have key : ∀ L : List Nat, (∀ f ∈ L, f ∈ fs) → (L.map (rtQ bh 7)).flatten.count s = L.count s + ((L.map (rtQ bh 7)).flatten.map bh).count s := by
      intro L
      induction L with
      | nil => intro _; rfl
      | cons f L ih =>
        intro h
        have h1 := ih fun x hx => h x (by simp [hx])
        have h2 := hsnoc f (h f (by simp))
        have h3 := congrArg (List.count s) h2
        rw [List.count_cons, List.count_cons, List.count_cons, List.count_append] at h3
        have e0 : List.count s [0] = 0 := by rw [List.count_eq_zero]; simp; omega
        rw [List.map_cons, List.flatten_cons, List.count_append, List.map_append, List.count_append, h1, List.count_cons]
        omega
    exact key fs fun f h => h
  have hone : ∀ (k s : Nat), 1 ≤ s → s ≤ I.n → (∀ d, PathQ bh s d → d.length + k ≥ 9) → (fs.map (rtQ bh 7)).flatten.count s = 1 := by
    intro k
    induction k with
    | zero =>
      intro s h1 h2 h3
      obtain ⟨d, h4, h5⟩ := hpath s h1 h2
      have := h3 d h4
      omega
    | succ k ih =>
      intro s h1 h2 h3
      rw [hcnt s (by omega)]
      rcases ht.all s h1 h2 with hm | ⟨p, hp1, hp2, hp3⟩
      · have e1 : fs.count s = 1 := by
          have := List.Nodup.count ht.fnd (a := s)
          rw [if_pos hm] at this; exact this
        have e2 : ((fs.map (rtQ bh 7)).flatten.map bh).count s = 0 := count_map_none _ fun q hq e => by
          have := hstops q hq
          exact ht.sep q this.1 this.2 (by rw [e]; exact hm)
        omega
      · have hns : s ∉ fs := fun hm => ht.sep p hp1 hp2 (by rw [hp3]; exact hm)
        have e1 : fs.count s = 0 := List.count_eq_zero.2 hns
        have e2 : ((fs.map (rtQ bh 7)).flatten.map bh).count s = (fs.map (rtQ bh 7)).flatten.count p := count_map_one _ (fun q hq e => by
          have := hstops q hq
          exact ht.inj q p this.1 this.2 hp1 hp2 (by rw [e, hp3]) (by rw [e]; omega)) hp3
        have e3 := ih p hp1 hp2 (fun d hd => by
          cases hd with
          | home => omega
          | next h0 hd' =>
            rw [hp3] at hd'
            have := h3 _ hd'
            simp only [List.length_cons]; omega)
        omega
  have hcount1 : ∀ s, 1 ≤ s → s ≤ I.n → (fs.map (rtQ bh 7)).flatten.count s = 1 := fun s h1 h2 => hone 9 s h1 h2 fun d _ => by omega
  refine ⟨⟨by simpa using ht.few, fun ρ hρ => ?_, hstops, nodup_count fun s hs' => ?_, fun s h1 h2 => ?_, fun ρ hρ => ?_, fun p hp => ?_, fun ρ hρ => ?_⟩, fun f hf' => ?_⟩
  · obtain ⟨f, hf', rfl⟩ := List.mem_map.1 hρ
    have := ht.fr f hf'
    unfold rtQ
    rw [if_neg (by omega)]; simp
  · have := hstops s hs'; exact hcount1 s this.1 this.2
  · exact List.count_pos_iff.1 (by rw [hcount1 s h1 h2]; omega)
  · obtain ⟨f, hf', rfl⟩ := List.mem_map.1 hρ
    apply Classical.byContradiction
    intro hno
    refine hfree f hf' ⟨.inr (.inl ?_)⟩
    have e : 0 :: (rtQ bh 7 f ++ [0]) = [0] ++ rtQ bh 7 f ++ [0] := by simp
    rw [e, sumW_app, sumW_app]
    simp only [sumW, List.map_cons, List.map_nil, List.sum_cons, List.sum_nil, if_true] at hno ⊢
    omega
  · obtain ⟨L, hL, hp'⟩ := List.mem_flatten.1 hp
    obtain ⟨ρ, hρ, rfl⟩ := List.mem_map.1 hL
    obtain ⟨f, hf', rfl⟩ := List.mem_map.1 hρ
    intro e
    exact hfree f hf' ⟨.inr (.inr (.inl ⟨p, by rw [← arcs_nbr]; exact hp', e⟩))⟩
  · obtain ⟨f, hf', rfl⟩ := List.mem_map.1 hρ
    apply Classical.byContradiction
    intro hno
    refine hfree f hf' ⟨.inr (.inr (.inr ?_))⟩
    have e : arrQ I 0 0 = some 0 := by unfold arrQ; rw [if_pos rfl, if_pos hI.close]
    show (match arrQ I 0 0 with | none => false | some t => runQ I t 0 (rtQ bh 7 f ++ [0])) = false
    rw [e]
    simpa using hno
  · obtain ⟨d, h1, _⟩ := hroute f hf'
    exact ⟨d, h1⟩
end Go.Proofs.Ytebinaopncclgab
