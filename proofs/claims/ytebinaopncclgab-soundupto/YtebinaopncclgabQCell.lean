/- Plain: a plan picks a cell in each row and column; what bounds it; a tree that is checked. No program in sight. -/
import Derived.Test.YtebinaopncclgabQPlain
import Derived.Test.YtebinaopncclgabTPlain
import Derived.Test.YtebinaopncclgabCSq
namespace Go.Proofs.Ytebinaopncclgab

/- rows and columns that are paired -/
structure Pick (N : Nat) (L : List (Nat × Nat)) : Prop where
  f1 : (L.map (·.1)).Nodup
  f2 : ∀ p ∈ L, p.1 < N ∧ p.2 < N
  f3 : L.length = N
  s1 : (L.map (·.2)).Nodup
theorem pick_sum {N : Nat} {L : List (Nat × Nat)} (h : Pick N L) (u v : Nat → Int) : (L.map fun p => u p.1 + v p.2).sum = sumL u (List.range N) + sumL v (List.range N) := by
  have e1 : sumL u (L.map (·.1)) = sumL u (List.range N) := sumL_all u N _ h.f1 (fun x hx => by obtain ⟨p, hp, rfl⟩ := List.mem_map.1 hx; exact (h.f2 p hp).1) (by simp [h.f3])
  have e2 : sumL v (L.map (·.2)) = sumL v (List.range N) := sumL_all v N _ h.s1 (fun x hx => by obtain ⟨p, hp, rfl⟩ := List.mem_map.1 hx; exact (h.f2 p hp).2) (by simp [h.f3])
  rw [← e1, ← e2]
  clear e1 e2 h
  induction L with
  | nil => simp [sumL]
  | cons p L ih => simp only [List.map_cons, List.sum_cons, sumL, ih]; omega
theorem sum_le_of {α : Type} (f g : α → Int) : ∀ (L : List α), (∀ x ∈ L, f x ≤ g x) → (L.map f).sum ≤ (L.map g).sum := by
  intro L
  induction L with
  | nil => intro _; simp
  | cons x L ih =>
    intro h
    have h1 := ih fun y hy => h y (by simp [hy])
    have h2 := h x (by simp)
    simp only [List.map_cons, List.sum_cons]; omega
/- numbers of rows and columns bound what any choice costs -/
theorem pick_dual {N : Nat} {C : Nat → Nat → Int} {L : List (Nat × Nat)} (h : Pick N L) (ho : ∀ p ∈ L, C p.1 p.2 ≠ -1) {u v : Nat → Int} (hu : ∀ i j, i < N → j < N → C i j ≠ -1 → u i + v j ≤ C i j) : sumL u (List.range N) + sumL v (List.range N) ≤ (L.map fun p => C p.1 p.2).sum := by
  rw [← pick_sum h u v]
  exact sum_le_of _ _ L fun p hp => hu p.1 p.2 (h.f2 p hp).1 (h.f2 p hp).2 (ho p hp)
/- rows never have too few columns -/
theorem pick_hall {N : Nat} {C : Nat → Nat → Int} {L : List (Nat × Nat)} (h : Pick N L) (ho : ∀ p ∈ L, C p.1 p.2 ≠ -1) (rows cols : List Nat) (hr : rows.Nodup) (hlt : ∀ r ∈ rows, r < N) (hc : ∀ r ∈ rows, ∀ j, j < N → C r j ≠ -1 → j ∈ cols) : rows.length ≤ cols.length := by
  have hall : ∀ r, r < N → ∃ p ∈ L, p.1 = r := fun r hr => by
    apply Classical.byContradiction
    intro hno
    have h1 := nodup_sub (r :: L.map (·.1)) (List.range N) (List.nodup_cons.2 ⟨fun hm => by obtain ⟨p, hp, e⟩ := List.mem_map.1 hm; exact hno ⟨p, hp, e⟩, h.f1⟩) (fun x hx => by
      rcases List.mem_cons.1 hx with e | e
      · rw [e]; simpa using hr
      · obtain ⟨p, hp, rfl⟩ := List.mem_map.1 e; simpa using (h.f2 p hp).1)
    simp [h.f3] at h1
    omega
  let M := L.filter fun p => decide (p.1 ∈ rows)
  have h1 : rows.length ≤ (M.map (·.1)).length := nodup_sub rows _ hr fun r hm => by
    obtain ⟨p, hp, e⟩ := hall r (hlt r hm)
    exact List.mem_map.2 ⟨p, List.mem_filter.2 ⟨hp, by simpa [e] using hm⟩, e⟩
  have h2 : (M.map (·.2)).length ≤ cols.length := nodup_sub _ cols ((List.Sublist.map _ List.filter_sublist).nodup h.s1) fun j hj => by
    obtain ⟨p, hp, rfl⟩ := List.mem_map.1 hj
    obtain ⟨hp1, hp2⟩ := List.mem_filter.1 hp
    exact hc p.1 (by simpa using hp2) p.2 (h.f2 p hp1).2 (ho p hp1)
  simp at h1 h2; omega

/- the pairs of a plan -/
def pairR (n k : Nat) (ρ : List Nat) : List (Nat × Nat) := ((n + k) :: ρ.map (· - 1)).zip (ρ.map (· - 1) ++ [n + k])
def pairsF (n : Nat) : Nat → List (List Nat) → List (Nat × Nat)
  | _, [] => []
  | k, ρ :: R => pairR n k ρ ++ pairsF n (k + 1) R
def idleF (n m vans : Nat) : List (Nat × Nat) := (List.range (vans - m)).map fun i => (n + m + i, n + m + i)
def pairsQ (I : Ins) (R : List (List Nat)) : List (Nat × Nat) := pairsF I.n 0 R ++ idleF I.n R.length I.vans
theorem pairR_fst (n k : Nat) (ρ : List Nat) : (pairR n k ρ).map (·.1) = (n + k) :: ρ.map (· - 1) := by unfold pairR; rw [List.map_fst_zip]; simp
theorem pairR_snd (n k : Nat) (ρ : List Nat) : (pairR n k ρ).map (·.2) = ρ.map (· - 1) ++ [n + k] := by unfold pairR; rw [List.map_snd_zip]; simp
theorem pairsF_fst (n : Nat) : ∀ (R : List (List Nat)) (k : Nat), ((pairsF n k R).map (·.1)).Perm (R.flatten.map (· - 1) ++ (List.range R.length).map fun i => n + k + i) := by
  intro R
  induction R with
  | nil => intro k; simp [pairsF]
  | cons ρ R ih =>
    intro k
    unfold pairsF
    rw [List.map_append, pairR_fst, List.flatten_cons, List.map_append]
    refine (List.Perm.append (List.Perm.refl _) (ih (k + 1))).trans ?_
    have e : (List.range (ρ :: R).length).map (fun i => n + k + i) = (n + k) :: (List.range R.length).map fun i => n + (k + 1) + i := by
      rw [List.length_cons, List.range_succ_eq_map, List.map_cons, List.map_map]
      congr 1
      apply List.map_congr_left
      intro i _
      simp only [Function.comp]; omega
    rw [e]
    show List.Perm ((n + k) :: (ρ.map (· - 1) ++ (R.flatten.map (· - 1) ++ _))) _
    rw [← List.append_assoc]
    exact List.perm_middle.symm
theorem pairsF_perm (n : Nat) : ∀ (R : List (List Nat)) (k : Nat), ((pairsF n k R).map (·.2)).Perm ((pairsF n k R).map (·.1)) := by
  intro R
  induction R with
  | nil => intro k; exact List.Perm.refl _
  | cons ρ R ih =>
    intro k
    unfold pairsF
    rw [List.map_append, List.map_append, pairR_fst, pairR_snd]
    exact List.Perm.append (List.perm_append_singleton _ _) (ih (k + 1))
theorem pairsQ_fst (I : Ins) {R : List (List Nat)} (hf : R.length ≤ I.vans) : ((pairsQ I R).map (·.1)).Perm (R.flatten.map (· - 1) ++ (List.range I.vans).map fun i => I.n + i) := by
  unfold pairsQ idleF
  rw [List.map_append, List.map_map]
  refine (List.Perm.append (pairsF_fst I.n R 0) (List.Perm.refl _)).trans ?_
  rw [List.append_assoc]
  refine List.Perm.append (List.Perm.refl _) ?_
  have e : (List.range I.vans).map (fun i => I.n + i) = (List.range R.length).map (fun i => I.n + 0 + i) ++ (List.range (I.vans - R.length)).map ((fun p : Nat × Nat => p.1) ∘ fun i => (I.n + R.length + i, I.n + R.length + i)) := by
    have h1 : I.vans = R.length + (I.vans - R.length) := by omega
    conv => lhs; rw [h1, List.range_add, List.map_append, List.map_map]
    congr 1
    apply List.map_congr_left
    intro i _
    simp only [Function.comp]; omega
  rw [e]
theorem pairsQ_perm (I : Ins) (R : List (List Nat)) : ((pairsQ I R).map (·.2)).Perm ((pairsQ I R).map (·.1)) := by
  unfold pairsQ idleF
  rw [List.map_append, List.map_append, List.map_map, List.map_map]
  exact List.Perm.append (pairsF_perm I.n R 0) (List.Perm.refl _)
theorem PlanQ.count {I : Ins} {R : List (List Nat)} (h : PlanQ I R) : R.flatten.length = I.n := by
  have h1 := nodup_sub R.flatten ((List.range I.n).map (· + 1)) h.once fun s hs => by
    have := h.stops s hs
    exact List.mem_map.2 ⟨s - 1, by simp; omega, by omega⟩
  have hnd : ((List.range I.n).map (· + 1)).Nodup := by
    rw [List.nodup_iff_pairwise_ne, List.pairwise_map]
    exact List.Pairwise.imp (fun h => by omega) (List.nodup_iff_pairwise_ne.1 List.nodup_range)
  have h2 := nodup_sub ((List.range I.n).map (· + 1)) R.flatten hnd fun s hs => by
    obtain ⟨i, hi, rfl⟩ := List.mem_map.1 hs
    exact h.all _ (by omega) (by simp at hi; omega)
  rw [List.length_map, List.length_range] at h1 h2
  omega
theorem nodup_map_on {L : List Nat} {f : Nat → Nat} (h : L.Nodup) (hf : ∀ a ∈ L, ∀ b ∈ L, f a = f b → a = b) : (L.map f).Nodup := by
  rw [List.nodup_iff_pairwise_ne, List.pairwise_map]
  exact List.Pairwise.imp_of_mem (fun ha hb hne e => hne (hf _ ha _ hb e)) (List.nodup_iff_pairwise_ne.1 h)
theorem plan_pick {I : Ins} {R : List (List Nat)} (h : PlanQ I R) : Pick (I.n + I.vans) (pairsQ I R) := by
  have hp := pairsQ_fst I h.few
  have hn : (R.flatten.map (· - 1) ++ (List.range I.vans).map fun i => I.n + i).Nodup := by
    rw [List.nodup_append]
    refine ⟨nodup_map_on h.once fun a ha b hb e => ?_, nodup_map_on List.nodup_range fun a _ b _ e => by omega, fun a ha b hb e => ?_⟩
    · have := h.stops a ha; have := h.stops b hb; omega
    · obtain ⟨s, hs, rfl⟩ := List.mem_map.1 ha
      obtain ⟨i, _, rfl⟩ := List.mem_map.1 hb
      have := h.stops s hs; omega
  have hm : ∀ x ∈ R.flatten.map (· - 1) ++ (List.range I.vans).map fun i => I.n + i, x < I.n + I.vans := fun x hx => by
    rcases List.mem_append.1 hx with e | e
    · obtain ⟨s, hs, rfl⟩ := List.mem_map.1 e; have := h.stops s hs; omega
    · obtain ⟨i, hi, rfl⟩ := List.mem_map.1 e; simp at hi; omega
  have hl := hp.length_eq
  rw [List.length_map, List.length_append, List.length_map, List.length_map, List.length_range, h.count] at hl
  refine ⟨hp.nodup_iff.2 hn, fun p hpm => ⟨hm _ (hp.mem_iff.1 (List.mem_map.2 ⟨p, hpm, rfl⟩)), hm _ (hp.mem_iff.1 ((pairsQ_perm I R).mem_iff.1 (List.mem_map.2 ⟨p, hpm, rfl⟩)))⟩, hl, (pairsQ_perm I R).nodup_iff.2 (hp.nodup_iff.2 hn)⟩

/- the arcs that a plan goes, and what it is asked to -/
def Along (n : Nat) (T : Nat → Nat → Int) (R : List (List Nat)) : Prop := ∀ a b, a ≤ n → b ≤ n → (T a b = 1 → (a, b) ∈ arcsQ R) ∧ (T a b = 2 → (a, b) ∉ arcsQ R)
theorem feS_no {n : Nat} {T : Nat → Nat → Int} {a b : Nat} (h : ∀ c, c ≤ n → ¬ feAt T a b c) : feS n T a b = false := by
  unfold feS
  rw [List.any_eq_false]
  intro c hc
  have := h c (by simp at hc; omega)
  simpa using this
theorem cell_along {I : Ins} {R : List (List Nat)} {T : Nat → Nat → Int} (h : PlanQ I R) (ha : Along I.n T R) {a b : Nat} (hp : (a, b) ∈ arcsQ R) : cellS I.n T I.D a b = I.D a b := by
  have hr := arcs_range h _ hp
  have hne := arc_ne h _ hp
  simp only at hr hne
  unfold cellS
  rw [if_neg (by omega), if_neg]
  rintro (e | e | e)
  · exact hne e
  · exact (ha a b hr.1 hr.2).2 e hp
  · rw [feS_no] at e
    · cases e
    · rintro c hc (⟨h1, h2, h3⟩ | ⟨h1, h2, h3⟩)
      · exact h2 (h.out_one h1 ((ha a c hr.1 hc).1 h3) hp)
      · exact h2 (h.in_one h1 ((ha c b hc hr.2).1 h3) hp)
def cellQ (I : Ins) (T : Nat → Nat → Int) (i j : Nat) : Int := cellS I.n T I.D (lineN I.n i) (lineN I.n j)
theorem line_van (n k : Nat) : lineN n (n + k) = 0 := by unfold lineN; rw [if_neg (by omega)]
theorem line_stop {n s : Nat} (h : 1 ≤ s ∧ s ≤ n) : lineN n (s - 1) = s := by unfold lineN; rw [if_pos (by omega)]; omega
theorem pairR_sites {n k : Nat} {ρ : List Nat} (h : ∀ s ∈ ρ, 1 ≤ s ∧ s ≤ n) : (pairR n k ρ).map (fun p => (lineN n p.1, lineN n p.2)) = arcsR ρ := by
  have e : ρ.map (fun s => lineN n (s - 1)) = ρ := by
    have : ρ.map (fun s => lineN n (s - 1)) = ρ.map id := List.map_congr_left fun s hs => line_stop (h s hs)
    rw [this, List.map_id]
  unfold pairR arcsR
  have h1 : ((n + k) :: ρ.map (· - 1)).map (lineN n) = 0 :: ρ := by
    rw [List.map_cons, line_van, List.map_map]; congr 1
  have h2 : (ρ.map (· - 1) ++ [n + k]).map (lineN n) = ρ ++ [0] := by
    rw [List.map_append, List.map_map]; congr 1
    simp [line_van]
  rw [← h1, ← h2, List.zip_map]
  rfl
theorem pairsF_sites {n : Nat} : ∀ (R : List (List Nat)) (k : Nat), (∀ s ∈ R.flatten, 1 ≤ s ∧ s ≤ n) → (pairsF n k R).map (fun p => (lineN n p.1, lineN n p.2)) = arcsQ R := by
  intro R
  induction R with
  | nil => intro k _; rfl
  | cons ρ R ih =>
    intro k h
    unfold pairsF arcsQ
    rw [List.map_append, pairR_sites fun s hs => h s (by simp [hs]), ih (k + 1) fun s hs => h s (by rw [List.flatten_cons]; exact List.mem_append_right _ hs)]
    simp [arcsQ]
theorem plan_cells {I : Ins} {R : List (List Nat)} {T : Nat → Nat → Int} (h : PlanQ I R) (ha : Along I.n T R) : (∀ p ∈ pairsQ I R, cellQ I T p.1 p.2 ≠ -1) ∧ ((pairsQ I R).map fun p => cellQ I T p.1 p.2).sum = costQ I R := by
  have hs := pairsF_sites (n := I.n) R 0 h.stops
  have hz : ∀ p ∈ idleF I.n R.length I.vans, cellQ I T p.1 p.2 = 0 := fun p hp => by
    obtain ⟨i, _, rfl⟩ := List.mem_map.1 hp
    unfold cellQ cellS
    simp only [Nat.add_assoc, line_van]; simp
  have hc : ∀ p ∈ pairsF I.n 0 R, cellQ I T p.1 p.2 = I.D (lineN I.n p.1) (lineN I.n p.2) ∧ (lineN I.n p.1, lineN I.n p.2) ∈ arcsQ R := fun p hp => by
    have hm : (lineN I.n p.1, lineN I.n p.2) ∈ arcsQ R := by rw [← hs]; exact List.mem_map.2 ⟨p, hp, rfl⟩
    exact ⟨cell_along h ha hm, hm⟩
  constructor
  · intro p hp
    rcases List.mem_append.1 hp with e | e
    · rw [(hc p e).1]; exact h.way _ (hc p e).2
    · rw [hz p e]; omega
  · unfold pairsQ costQ sumA
    rw [List.map_append, List.sum_append_int, ← hs, List.map_map]
    have e1 : (pairsF I.n 0 R).map (fun p => cellQ I T p.1 p.2) = (pairsF I.n 0 R).map ((fun p : Nat × Nat => I.D p.1 p.2) ∘ fun p => (lineN I.n p.1, lineN I.n p.2)) := List.map_congr_left fun p hp => (hc p hp).1
    have e2 : ((idleF I.n R.length I.vans).map fun p => cellQ I T p.1 p.2).sum = 0 := by
      have : ∀ L : List (Nat × Nat), (∀ p ∈ L, cellQ I T p.1 p.2 = 0) → (L.map fun p => cellQ I T p.1 p.2).sum = 0 := by
        intro L
        induction L with
        | nil => intro _; rfl
        | cons p L ih => intro h; simp only [List.map_cons, List.sum_cons]; rw [h p (by simp), ih fun q hq => h q (by simp [hq])]; rfl
      exact this _ hz
    rw [e1, e2]; omega
/- no plan is below duals; rows of a plan have columns -/
theorem plan_dual {I : Ins} {R : List (List Nat)} {T : Nat → Nat → Int} (h : PlanQ I R) (ha : Along I.n T R) {u v : Nat → Int} (hu : ∀ i j, i < I.n + I.vans → j < I.n + I.vans → cellQ I T i j ≠ -1 → u i + v j ≤ cellQ I T i j) : sumL u (List.range (I.n + I.vans)) + sumL v (List.range (I.n + I.vans)) ≤ costQ I R := by
  rw [← (plan_cells h ha).2]
  exact pick_dual (plan_pick h) (plan_cells h ha).1 hu
theorem plan_tight {I : Ins} {R : List (List Nat)} {T : Nat → Nat → Int} (h : PlanQ I R) (ha : Along I.n T R) {col u v : Nat → Int} {cost : Int} (ht : Tight (I.n + I.vans) (cellQ I T) col u v cost) : cost ≤ costQ I R := by
  have := plan_dual h ha ht.under
  rw [ht.sum, sumL_add]; exact this
theorem plan_short {I : Ins} {R : List (List Nat)} {T : Nat → Nat → Int} (h : PlanQ I R) (ha : Along I.n T R) {S U : Nat → Bool} (hs : Short (I.n + I.vans) (cellQ I T) S U) : False := by
  have h1 := pick_hall (plan_pick h) (plan_cells h ha).1 ((List.range (I.n + I.vans)).filter S) ((List.range (I.n + I.vans)).filter U) (List.filter_sublist.nodup List.nodup_range) (fun r hr => by simpa using (List.mem_filter.1 hr).1) (fun r hr j hj hc => by
    obtain ⟨h1, h2⟩ := List.mem_filter.1 hr
    exact List.mem_filter.2 ⟨by simpa using hj, hs.open_ r j (by simpa using h1) hj h2 hc⟩)
  have := hs.few
  omega

/- a node holds, where the arcs are forced and barred so -/
def risingZ (l : List Int) : Prop := ∀ i, i + 1 < l.length → l.getD i 0 < l.getD (i + 1) 0
def hitsZ (N : Nat) (C : Nat → Nat → Int) (l : List Int) : Nat := ((List.range N).filter fun j => l.any fun r => decide (C r.toNat j ≠ -1)).length
def endsZ (l : List Int) : Prop := ∀ i, i + 2 < l.length → l.getD (i + 1) 0 ≠ 0
structure DualsZ (I : Ins) (T : Nat → Nat → Int) (c : Int) (l : List Int) : Prop where
  len : l.length = 2 * (I.n + I.vans)
  sum : c ≤ l.sum
  under : ∀ i j, i < I.n + I.vans → j < I.n + I.vans → cellQ I T i j ≠ -1 → l.getD i 0 + l.getD (I.n + I.vans + j) 0 ≤ cellQ I T i j
structure HallZ (I : Ins) (T : Nat → Nat → Int) (l : List Int) : Prop where
  rows : ∀ x ∈ l, 0 ≤ x ∧ x < ((I.n + I.vans : Nat) : Int)
  rising : risingZ l
  few : hitsZ (I.n + I.vans) (cellQ I T) l < l.length
structure ChainZ (I : Ins) (T : Nat → Nat → Int) (l : List Int) : Prop where
  ne : l ≠ []
  sites : ∀ x ∈ l, 0 ≤ x ∧ x ≤ (I.n : Int)
  ends : endsZ l
  forced : ∀ i, i + 1 < l.length → T (l.getD i 0).toNat (l.getD (i + 1) 0).toNat = 1
  blocked : BlockedQ I (l.map Int.toNat)
def HoldZ (I : Ins) (cl : Option Int) (T : Nat → Nat → Int) (nd : Int × List Int) : Prop :=
  (nd.1 = 2 ∧ ∃ c, cl = some c ∧ DualsZ I T c nd.2) ∨ (nd.1 = 3 ∧ HallZ I T nd.2) ∨ (nd.1 = 4 ∧ ChainZ I T nd.2)

theorem sum_getD : ∀ (l : List Int), l.sum = sumL (fun i => l.getD i 0) (List.range l.length) := by
  intro l
  have key : ∀ k, k ≤ l.length → (l.take k).sum = sumL (fun i => l.getD i 0) (List.range k) := by
    intro k
    induction k with
    | zero => intro _; simp [sumL]
    | succ k ih =>
      intro h
      rw [List.take_succ_eq_append_getElem (by omega), List.sum_append_int, ih (by omega), List.range_succ, sumL_append]
      simp [sumL, List.getD_eq_getElem?_getD, List.getElem?_eq_getElem (show k < l.length by omega)]
  have := key l.length (Nat.le_refl _)
  rwa [List.take_length] at this
theorem sum_halves {l : List Int} {N : Nat} (h : l.length = 2 * N) : l.sum = sumL (fun i => l.getD i 0) (List.range N) + sumL (fun j => l.getD (N + j) 0) (List.range N) := by
  rw [sum_getD, h, show 2 * N = N + N by omega, List.range_add, sumL_append]
  congr 1
  rw [sumL_map]
theorem nbr_getD : ∀ (c : List Nat) (p : Nat × Nat), p ∈ nbr c → ∃ i, i + 1 < c.length ∧ p = (c.getD i 0, c.getD (i + 1) 0) := by
  intro c p hp
  obtain ⟨u, v, h⟩ := nbr_mem c (a := p.1) (b := p.2) hp
  refine ⟨u.length, by rw [h]; simp, ?_⟩
  rw [h]
  simp [List.getD_eq_getElem?_getD]
theorem getD_map_nat (l : List Int) (i : Nat) : (l.map Int.toNat).getD i 0 = (l.getD i 0).toNat := by
  rw [List.getD_eq_getElem?_getD, List.getD_eq_getElem?_getD, List.getElem?_map]
  cases l[i]? <;> rfl
theorem rising_nodup {l : List Int} (hp : ∀ x ∈ l, 0 ≤ x) (h : risingZ l) : (l.map Int.toNat).Nodup := by
  have hlt : ∀ i j, i < j → j < l.length → l.getD i 0 < l.getD j 0 := by
    intro i j hij hj
    induction j with
    | zero => omega
    | succ j ih =>
      have h1 := h j hj
      by_cases e : i = j
      · rw [e]; exact h1
      · have := ih (by omega) (by omega); omega
  rw [List.nodup_iff_pairwise_ne, List.pairwise_map, List.pairwise_iff_getElem]
  intro i j hi hj hij
  have h1 := hlt i j hij hj
  rw [List.getD_eq_getElem?_getD, List.getD_eq_getElem?_getD, List.getElem?_eq_getElem hi, List.getElem?_eq_getElem hj] at h1
  have h2 := hp l[i] (List.getElem_mem hi)
  have h3 := hp l[j] (List.getElem_mem hj)
  simp at h1; omega
theorem leaf_sound {I : Ins} (hI : InsOk I) {R : List (List Nat)} {T : Nat → Nat → Int} (h : PlanQ I R) (ha : Along I.n T R) {cl : Option Int} {nd : Int × List Int} (hh : HoldZ I cl T nd) : ∃ c, cl = some c ∧ c ≤ costQ I R := by
  rcases hh with ⟨_, c, hc, hd⟩ | ⟨_, hd⟩ | ⟨_, hd⟩
  · refine ⟨c, hc, ?_⟩
    have := plan_dual h ha (u := fun i => nd.2.getD i 0) (v := fun j => nd.2.getD (I.n + I.vans + j) 0) hd.under
    rw [← sum_halves hd.len] at this
    have := hd.sum
    omega
  · exfalso
    have hp : ∀ x ∈ nd.2, 0 ≤ x := fun x hx => (hd.rows x hx).1
    have h1 := pick_hall (plan_pick h) (plan_cells h ha).1 (nd.2.map Int.toNat) ((List.range (I.n + I.vans)).filter fun j => nd.2.any fun r => decide (cellQ I T r.toNat j ≠ -1)) (rising_nodup hp hd.rising) (fun r hr => by
      obtain ⟨x, hx, rfl⟩ := List.mem_map.1 hr
      have := hd.rows x hx; omega) (fun r hr j hj hc => by
      obtain ⟨x, hx, rfl⟩ := List.mem_map.1 hr
      exact List.mem_filter.2 ⟨by simpa using hj, List.any_eq_true.2 ⟨x, hx, by simpa using hc⟩⟩)
    have := hd.few
    unfold hitsZ at this
    rw [List.length_map] at h1
    omega
  · exfalso
    refine chain_free hI h (c := nd.2.map Int.toNat) (by simpa using hd.ne) (fun s hs => ?_) (fun p hp => ?_) (fun u v e => ?_) hd.blocked
    · obtain ⟨x, hx, rfl⟩ := List.mem_map.1 hs
      have := hd.sites x hx; omega
    · obtain ⟨i, hi, rfl⟩ := nbr_getD _ p hp
      rw [List.length_map] at hi
      rw [getD_map_nat, getD_map_nat]
      have h1 := hd.forced i hi
      have hs1 : ∀ k, k < nd.2.length → (nd.2.getD k 0).toNat ≤ I.n := fun k hk => by
        rw [List.getD_eq_getElem?_getD, List.getElem?_eq_getElem hk]
        have := hd.sites _ (List.getElem_mem hk)
        simp; omega
      exact (ha _ _ (hs1 i (by omega)) (hs1 (i + 1) hi)).1 h1
    · apply Classical.byContradiction
      intro hno
      have hu : 0 < u.length := by
        cases u with
        | nil => exact absurd (.inl rfl) hno
        | cons => simp
      have hv : 0 < v.length := by
        cases v with
        | nil => exact absurd (.inr rfl) hno
        | cons => simp
      have hl := congrArg List.length e
      simp at hl
      have h1 := hd.ends (u.length - 1) (by omega)
      rw [show u.length - 1 + 1 = u.length by omega] at h1
      have h2 : (nd.2.map Int.toNat).getD u.length 0 = 0 := by rw [e]; simp [List.getD_eq_getElem?_getD]
      rw [getD_map_nat] at h2
      have h3 : 0 ≤ nd.2.getD u.length 0 := by
        rw [List.getD_eq_getElem?_getD, List.getElem?_eq_getElem (show u.length < nd.2.length by omega)]
        exact (hd.sites _ (List.getElem_mem _)).1
      omega

/- where a node stands: the branches above it, the lowest first, and the side -/
abbrev PathT := List ((Nat × Nat) × Bool)
def tabP : PathT → Nat → Nat → Int
  | [] => fun _ _ => 0
  | p :: P => upd (tabP P) p.1.1 p.1.2 (if p.2 = true then 1 else 2)
def leaveP : PathT → PathT
  | [] => []
  | p :: P => if p.2 = true then (p.1, false) :: P else leaveP P
def forcedP (P : PathT) : Nat := (P.filter (·.2)).length
def arcZ (n : Nat) (l : List Int) : Prop := 0 ≤ l.getD 0 0 ∧ l.getD 0 0 ≤ (n : Int) ∧ 0 ≤ l.getD 1 0 ∧ l.getD 1 0 ≤ (n : Int) ∧ l.getD 0 0 ≠ l.getD 1 0
open Classical in
noncomputable def stepW (I : Ins) (cl : Option Int) (P : PathT) (nd : Int × List Int) : Option PathT :=
  if nd.1 = 1 then (if arcZ I.n nd.2 ∧ tabP P (nd.2.getD 0 0).toNat (nd.2.getD 1 0).toNat = 0 then some ((((nd.2.getD 0 0).toNat, (nd.2.getD 1 0).toNat), true) :: P) else none)
  else if HoldZ I cl (tabP P) nd then some (leaveP P) else none
noncomputable def walkW (I : Ins) (cl : Option Int) : PathT → List (Int × List Int) → Option PathT
  | P, [] => some P
  | P, nd :: l => match stepW I cl P nd with
    | none => none
    | some P' => walkW I cl P' l
theorem walkW_cons (I : Ins) (cl : Option Int) (P : PathT) (nd : Int × List Int) (l : List (Int × List Int)) : walkW I cl P (nd :: l) = match stepW I cl P nd with | none => none | some P' => walkW I cl P' l := rfl
/- a plan that goes along here, or on the other side of a branch that is still to come -/
def PendP (n : Nat) (P : PathT) (R : List (List Nat)) : Prop := Along n (tabP P) R ∨ ∃ P1 ab P2, P = P1 ++ (ab, true) :: P2 ∧ Along n (tabP ((ab, false) :: P2)) R
theorem leave_forced (P : PathT) : forcedP (leaveP P) = forcedP P - 1 := by
  induction P with
  | nil => rfl
  | cons p P ih =>
    unfold leaveP forcedP
    by_cases h : p.2 = true
    · rw [if_pos h, List.filter_cons_of_pos h, List.filter_cons_of_neg (by simp)]; simp
    · rw [if_neg h, List.filter_cons_of_neg h]; exact ih
theorem leave_pend {n : Nat} {R : List (List Nat)} : ∀ (P P1 : PathT) (ab : Nat × Nat) (P2 : PathT), P = P1 ++ (ab, true) :: P2 → Along n (tabP ((ab, false) :: P2)) R → 0 < forcedP P ∧ PendP n (leaveP P) R := by
  intro P
  induction P with
  | nil => intro P1 ab P2 h; simp at h
  | cons p P ih =>
    intro P1 ab P2 h ha
    cases P1 with
    | nil =>
      simp only [List.nil_append, List.cons.injEq] at h
      obtain ⟨rfl, rfl⟩ := h
      refine ⟨by unfold forcedP; rw [List.filter_cons_of_pos rfl]; simp, ?_⟩
      left
      show Along n (tabP (leaveP ((ab, true) :: P))) R
      unfold leaveP
      rw [if_pos rfl]; exact ha
    | cons q P1 =>
      simp only [List.cons_append, List.cons.injEq] at h
      obtain ⟨rfl, h2⟩ := h
      have hi := ih P1 ab P2 h2 ha
      by_cases hp : p.2 = true
      · refine ⟨by unfold forcedP; rw [List.filter_cons_of_pos hp]; simp, ?_⟩
        right
        refine ⟨(p.1, false) :: P1, ab, P2, ?_, ha⟩
        unfold leaveP
        rw [if_pos hp, h2]; rfl
      · refine ⟨by unfold forcedP; rw [List.filter_cons_of_neg hp]; exact hi.1, ?_⟩
        unfold leaveP
        rw [if_neg hp]; exact hi.2
theorem upd_at (T : Nat → Nat → Int) (a b : Nat) (x : Int) : upd T a b x a b = x := by unfold upd; rw [if_pos ⟨rfl, rfl⟩]
theorem upd_ne {T : Nat → Nat → Int} {a b c d : Nat} {x : Int} (h : ¬ (c = a ∧ d = b)) : upd T a b x c d = T c d := by unfold upd; rw [if_neg h]
/- a list of nodes that all hold, and that is a tree for what is still to come, bounds every plan -/
theorem walk_sound {I : Ins} (hI : InsOk I) {R : List (List Nat)} (h : PlanQ I R) {cl : Option Int} : ∀ (l : List (Int × List Int)) (P P' : PathT), walkW I cl P l = some P' → treeT (1 + forcedP P) l = true → PendP I.n P R → ∃ c, cl = some c ∧ c ≤ costQ I R := by
  intro l
  induction l with
  | nil => intro P P' _ ht _; unfold treeT at ht; simp at ht
  | cons nd l ih =>
    intro P P' hw ht hp
    rw [walkW_cons] at hw
    unfold treeT at ht
    simp only [Bool.and_eq_true] at ht
    cases hs : stepW I cl P nd with
    | none => rw [hs] at hw; cases hw
    | some Q =>
      rw [hs] at hw
      unfold stepW at hs
      by_cases hk : nd.1 = 1
      · rw [if_pos hk] at hs
        split at hs
        · rename_i hc
          cases hs
          have ht2 := ht.2
          unfold nextT at ht2
          rw [if_pos hk] at ht2
          refine ih _ _ hw ?_ ?_
          · unfold forcedP at ht2 ⊢
            rw [List.filter_cons_of_pos rfl, List.length_cons]
            rw [show 1 + ((P.filter (·.2)).length + 1) = 1 + (P.filter (·.2)).length + 1 by omega]; exact ht2
          · rcases hp with ha | ⟨P1, ab, P2, h1, h2⟩
            · by_cases hm : ((nd.2.getD 0 0).toNat, (nd.2.getD 1 0).toNat) ∈ arcsQ R
              · left
                intro a b ha1 hb1
                by_cases e : a = (nd.2.getD 0 0).toNat ∧ b = (nd.2.getD 1 0).toNat
                · obtain ⟨rfl, rfl⟩ := e
                  have : tabP ((((nd.2.getD 0 0).toNat, (nd.2.getD 1 0).toNat), true) :: P) (nd.2.getD 0 0).toNat (nd.2.getD 1 0).toNat = 1 := upd_at _ _ _ _
                  rw [this]; exact ⟨fun _ => hm, fun h => by omega⟩
                · have : tabP ((((nd.2.getD 0 0).toNat, (nd.2.getD 1 0).toNat), true) :: P) a b = tabP P a b := upd_ne e
                  rw [this]; exact ha a b ha1 hb1
              · right
                refine ⟨[], _, P, rfl, ?_⟩
                intro a b ha1 hb1
                by_cases e : a = (nd.2.getD 0 0).toNat ∧ b = (nd.2.getD 1 0).toNat
                · obtain ⟨rfl, rfl⟩ := e
                  have : tabP ((((nd.2.getD 0 0).toNat, (nd.2.getD 1 0).toNat), false) :: P) (nd.2.getD 0 0).toNat (nd.2.getD 1 0).toNat = 2 := upd_at _ _ _ _
                  rw [this]; exact ⟨fun h => by omega, fun _ => hm⟩
                · have : tabP ((((nd.2.getD 0 0).toNat, (nd.2.getD 1 0).toNat), false) :: P) a b = tabP P a b := upd_ne e
                  rw [this]; exact ha a b ha1 hb1
            · right
              exact ⟨_ :: P1, ab, P2, by rw [h1]; rfl, h2⟩
        · cases hs
      · rw [if_neg hk] at hs
        split at hs
        · rename_i hc
          cases hs
          rcases hp with ha | ⟨P1, ab, P2, h1, h2⟩
          · exact leaf_sound hI h ha hc
          · obtain ⟨h3, h4⟩ := leave_pend P P1 ab P2 h1 h2
            refine ih _ _ hw ?_ h4
            have ht2 := ht.2
            unfold nextT at ht2
            rw [if_neg hk] at ht2
            rw [leave_forced, show 1 + (forcedP P - 1) = 1 + forcedP P - 1 by omega]; exact ht2
        · cases hs
theorem check_sound {I : Ins} (hI : InsOk I) {R : List (List Nat)} (h : PlanQ I R) {cl : Option Int} {l : List (Int × List Int)} {P' : PathT} (hw : walkW I cl [] l = some P') (ht : treeT 1 l = true) : ∃ c, cl = some c ∧ c ≤ costQ I R :=
  walk_sound hI h l [] P' hw ht (.inl fun _ _ _ _ => And.intro (fun h => absurd h (show (0 : Int) ≠ 1 by omega)) (fun h => absurd h (show (0 : Int) ≠ 2 by omega)))
end Go.Proofs.Ytebinaopncclgab
