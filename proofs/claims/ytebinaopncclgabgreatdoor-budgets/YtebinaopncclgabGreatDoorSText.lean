/- Plain: the text of a plan's routes. -/
import Derived.Test.YtebinaopncclgabGreatDoorSMatch
import Derived.Test.YtebinaopncclgabGreatDoorFPlain
import Derived.Test.YtebinaopncclgabGreatDoorADet
import Derived.Test.YtebinaopncclgabGreatDoorQJudge
namespace Go.Proofs.YtebinaopncclgabGreatDoor

/- every route of a tour ends -/
def itB (bh : Nat → Nat) : Nat → Nat → Nat
  | 0, x => x
  | k + 1, x => bh (itB bh k x)
theorem tour_run {I : Ins} {bh : Nat → Nat} {fs : List Nat} (ht : TourQ I bh fs) {f : Nat} (hf : f ∈ fs) : ∀ k, (∀ j, j ≤ k → itB bh j f ≠ 0) → ∀ j, j ≤ k → 1 ≤ itB bh j f ∧ itB bh j f ≤ I.n := by
  intro k hk j
  induction j with
  | zero => intro _; exact ht.fr f hf
  | succ j ih =>
    intro hj
    have h1 := ih (by omega)
    have h2 := ht.rng _ h1.1 h1.2
    have h3 := hk (j + 1) hj
    exact ⟨Nat.pos_of_ne_zero h3, h2⟩
theorem tour_apart {I : Ins} {bh : Nat → Nat} {fs : List Nat} (ht : TourQ I bh fs) {f : Nat} (hf : f ∈ fs) {k : Nat} (hk : ∀ j, j ≤ k → itB bh j f ≠ 0) : ∀ i j, i < j → j ≤ k → itB bh i f ≠ itB bh j f := by
  have hr := tour_run ht hf k hk
  intro i
  induction i with
  | zero =>
    intro j hij hj e
    obtain ⟨m, rfl⟩ : ∃ m, j = m + 1 := ⟨j - 1, by omega⟩
    have h1 := hr m (by omega)
    exact ht.sep _ h1.1 h1.2 (by
      have e' : f = bh (itB bh m f) := e
      rw [← e']; exact hf)
  | succ i ih =>
    intro j hij hj e
    obtain ⟨m, rfl⟩ : ∃ m, j = m + 1 := ⟨j - 1, by omega⟩
    have h1 := hr m (by omega)
    have h2 := hr i (by omega)
    exact ih m (by omega) (by omega) (ht.inj _ _ h2.1 h2.2 h1.1 h1.2 e (hk (i + 1) (by omega)))
theorem tour_path {I : Ins} {bh : Nat → Nat} {fs : List Nat} (ht : TourQ I bh fs) {f : Nat} (hf : f ∈ fs) : ∃ d, PathQ bh f d ∧ d.length ≤ I.n := by
  have h1 : ∃ j, j ≤ I.n ∧ itB bh j f = 0 := Classical.byContradiction fun hno => by
    have hk : ∀ j, j ≤ I.n → itB bh j f ≠ 0 := fun j hj e => hno ⟨j, hj, e⟩
    have hr := tour_run ht hf I.n hk
    have ha := tour_apart ht hf hk
    have h2 := nodup_sub ((List.range (I.n + 1)).map fun j => itB bh j f) ((List.range I.n).map (· + 1)) (by
      rw [List.nodup_iff_pairwise_ne, List.pairwise_map]
      refine List.Pairwise.imp_of_mem (R := fun a b => a < b) (fun {a b} h1 h2 hlt => ?_) List.pairwise_lt_range
      have : b < I.n + 1 := by simpa using h2
      exact ha a b hlt (by omega)) (fun x hx => by
      obtain ⟨j, hj, rfl⟩ := List.mem_map.1 hx
      have hj' : j < I.n + 1 := by simpa using hj
      have := hr j (by omega)
      exact List.mem_map.2 ⟨itB bh j f - 1, by simp; omega, by omega⟩)
    simp at h2
    omega
  have key : ∀ m j, itB bh (j + m) f = 0 → ∃ d, PathQ bh (itB bh j f) d ∧ d.length ≤ m := by
    intro m
    induction m with
    | zero => intro j h; rw [Nat.add_zero] at h; rw [h]; exact ⟨[], PathQ.home, Nat.le_refl _⟩
    | succ m ih =>
      intro j h
      by_cases h0 : itB bh j f = 0
      · rw [h0]; exact ⟨[], PathQ.home, Nat.zero_le _⟩
      · obtain ⟨d, hd, hl⟩ := ih (j + 1) (by rw [← h]; congr 1; omega)
        exact ⟨_, PathQ.next h0 hd, by simp; omega⟩
  obtain ⟨j, hj, h0⟩ := h1
  obtain ⟨d, hd, hl⟩ := key j 0 (by rw [Nat.zero_add]; exact h0)
  exact ⟨d, hd, by omega⟩

/- the chain with the fewest free arcs -/
def freeT (T : Nat → Nat → Int) (p : Nat × Nat) : Bool := decide (p.1 ≠ p.2 ∧ T p.1 p.2 = 0)
def freeN (T : Nat → Nat → Int) (c : List Nat) : Nat := ((nbr c).filter (freeT T)).length
def begsQ (n : Nat) (fs : List Nat) : List (List Nat) := ((List.range n).map fun i => [i + 1]) ++ fs.map fun f => [0, f]
noncomputable def chainQ (I : Ins) (bh : Nat → Nat) (c : List Nat) : List Nat := blkQ I bh (10 - c.length) c
def weakS (T : Nat → Nat → Int) (s : List Nat × Nat) (c : List Nat) : List Nat × Nat := if c = [] then s else if s.1 = [] ∨ freeN T c < s.2 then (c, freeN T c) else s
noncomputable def weakG (I : Ins) (T : Nat → Nat → Int) (bh : Nat → Nat) (l : List (List Nat)) : List Nat × Nat := (l.map (chainQ I bh)).foldl (weakS T) ([], 0)
noncomputable def weakQ (I : Ins) (T : Nat → Nat → Int) (bh : Nat → Nat) (fs : List Nat) : List Nat := (weakG I T bh (begsQ I.n fs)).1
theorem weak_fold (T : Nat → Nat → Int) : ∀ (l : List (List Nat)) (s : List Nat × Nat), ((l.foldl (weakS T) s).1 = s.1 ∨ (l.foldl (weakS T) s).1 ∈ l) ∧ ((l.foldl (weakS T) s).1 = [] → s.1 = [] ∧ ∀ c ∈ l, c = []) := by
  intro l
  induction l with
  | nil => intro s; exact ⟨.inl rfl, fun h => ⟨h, fun c hc => absurd hc (by simp)⟩⟩
  | cons c l ih =>
    intro s
    rw [List.foldl_cons]
    obtain ⟨h1, h2⟩ := ih (weakS T s c)
    have h3 : (weakS T s c).1 = s.1 ∨ (weakS T s c).1 = c := by
      unfold weakS
      by_cases e1 : c = []
      · rw [if_pos e1]; exact .inl rfl
      · rw [if_neg e1]
        split
        · exact .inr rfl
        · exact .inl rfl
    refine ⟨?_, fun h => ?_⟩
    · rcases h1 with h1 | h1
      · rcases h3 with h3 | h3
        · exact .inl (h1.trans h3)
        · exact .inr (by rw [h1, h3]; simp)
      · exact .inr (by simp [h1])
    · obtain ⟨h4, h5⟩ := h2 h
      have h6 : c = [] ∧ s.1 = [] := by
        unfold weakS at h4
        by_cases e1 : c = []
        · rw [if_pos e1] at h4; exact ⟨e1, h4⟩
        · rw [if_neg e1] at h4
          by_cases e2 : s.1 = [] ∨ freeN T c < s.2
          · rw [if_pos e2] at h4; exact absurd h4 e1
          · rw [if_neg e2] at h4; exact absurd (.inl h4) e2
      exact ⟨h6.2, fun x hx => by
        rcases List.mem_cons.1 hx with e | e
        · rw [e]; exact h6.1
        · exact h5 x e⟩
abbrev RoutesQ := List (List Nat)
def partQ (T : Nat → Nat → Int) (c : List Nat) : NodeT :=
  match (nbr c).find? (freeT T) with
  | some p => (1, [(p.1 : Int), (p.2 : Int)])
  | none => (4, c.map fun (s : Nat) => (s : Int))
def hallN (N : Nat) (S : Nat → Bool) : NodeT := (3, ((List.range N).filter S).map fun (i : Nat) => (i : Int))
def dualN (N : Nat) (u v : Nat → Int) : NodeT := (2, (List.range N).map u ++ (List.range N).map v)
noncomputable def resP (I : Ins) (P : PathT) : ResB := bestF (I.n + I.vans) (cellQ I (tabP P))
def tourR (I : Ins) (col : Nat → Int) : RoutesQ := (fsQ I.n I.vans col).map (rtQ (bhQ I.n col) 7)
open Classical in
noncomputable def nextQ (I : Ins) (P : PathT) (fc : Option RoutesQ) : NodeT × Option RoutesQ :=
  if (resP I P).whole = false then (hallN (I.n + I.vans) (resP I P).S, fc)
  else if ∃ R, fc = some R ∧ costQ I R ≤ (resP I P).cost then (dualN (I.n + I.vans) (resP I P).u (resP I P).v, fc)
  else if PlanQ I (tourR I (resP I P).col) then (dualN (I.n + I.vans) (resP I P).u (resP I P).v, some (tourR I (resP I P).col))
  else (partQ (tabP P) (weakQ I (tabP P) (bhQ I.n (resP I P).col) (fsQ I.n I.vans (resP I P).col)), fc)
structure SSt where
  L : List NodeT
  P : PathT
  fc : Option RoutesQ
noncomputable def stepG (I : Ins) (s : SSt) : SSt × Bool :=
  if (nextQ I s.P s.fc).1.1 = 1 then (⟨s.L ++ [(nextQ I s.P s.fc).1], ((((nextQ I s.P s.fc).1.2.getD 0 0).toNat, ((nextQ I s.P s.fc).1.2.getD 1 0).toNat), true) :: s.P, (nextQ I s.P s.fc).2⟩, false)
  else (⟨s.L ++ [(nextQ I s.P s.fc).1], leaveP s.P, (nextQ I s.P s.fc).2⟩, (leaveP s.P).isEmpty)
noncomputable def growG (I : Ins) : Nat → SSt × Bool
  | 0 => (⟨[], [], none⟩, false)
  | k + 1 => if (growG I k).2 = true then growG I k else stepG I (growG I k).1

/- what Best is known to tell -/
structure GoodB (I : Ins) (P : PathT) : Prop where
  tight : (resP I P).whole = true → Tight (I.n + I.vans) (cellQ I (tabP P)) (resP I P).col (resP I P).u (resP I P).v (resP I P).cost
  short : (resP I P).whole = false → ∃ T, Short (I.n + I.vans) (cellQ I (tabP P)) (resP I P).S T
def ClOk (I : Ins) (fc : Option RoutesQ) (cl : Option Int) : Prop := ∀ R, fc = some R → ∃ c, cl = some c ∧ c ≤ costQ I R

theorem filter_rising (N : Nat) (S : Nat → Bool) : risingZ (((List.range N).filter S).map fun (i : Nat) => (i : Int)) := by
  intro i hi
  rw [List.length_map] at hi
  have h1 : ((List.range N).filter S).Pairwise (· < ·) := List.Pairwise.filter _ List.pairwise_lt_range
  rw [List.pairwise_iff_getElem] at h1
  have h2 := h1 i (i + 1) (by omega) hi (by omega)
  rw [List.getD_eq_getElem?_getD, List.getD_eq_getElem?_getD, List.getElem?_map, List.getElem?_map, List.getElem?_eq_getElem (by omega : i < _), List.getElem?_eq_getElem hi]
  simp; omega
theorem filter_le_of {N : Nat} {f g : Nat → Bool} (h : ∀ j, j < N → f j = true → g j = true) : ((List.range N).filter f).length ≤ ((List.range N).filter g).length := by
  have key : ∀ l : List Nat, (∀ j ∈ l, j < N) → (l.filter f).length ≤ (l.filter g).length := by
    intro l
    induction l with
    | nil => intro _; simp
    | cons a l ih =>
      intro hl
      have h1 := ih (fun j hj => hl j (by simp [hj]))
      by_cases ha : f a = true
      · have hg := h a (hl a (by simp)) ha
        rw [List.filter_cons_of_pos ha, List.filter_cons_of_pos hg]; simp; omega
      · rw [List.filter_cons_of_neg ha]
        have : (l.filter g).length ≤ ((a :: l).filter g).length := (List.Sublist.filter g (List.sublist_cons_self a l)).length_le
        omega
  exact key _ (fun j hj => by simpa using hj)
theorem short_hall {I : Ins} {T : Nat → Nat → Int} {S U : Nat → Bool} (h : Short (I.n + I.vans) (cellQ I T) S U) : HallZ I T (hallN (I.n + I.vans) S).2 := by
  refine ⟨fun x hx => ?_, filter_rising _ _, ?_⟩
  · obtain ⟨i, hi, rfl⟩ := List.mem_map.1 hx
    have := (List.mem_filter.1 hi).1
    have h2 : i < I.n + I.vans := by simpa using this
    omega
  · refine Nat.lt_of_le_of_lt (filter_le_of (g := U) fun j hj hh => ?_) (by simpa [hallN] using h.few)
    obtain ⟨x, hx, hc⟩ := List.any_eq_true.1 hh
    obtain ⟨i, hi, rfl⟩ := List.mem_map.1 hx
    obtain ⟨hi1, hi2⟩ := List.mem_filter.1 hi
    exact h.open_ i j (by simpa using hi1) hj hi2 (by simpa using hc)
theorem dual_get {N : Nat} {u v : Nat → Int} {i : Nat} (hi : i < N) : ((dualN N u v).2).getD i 0 = u i ∧ ((dualN N u v).2).getD (N + i) 0 = v i := by
  unfold dualN
  refine ⟨?_, ?_⟩
  · rw [List.getD_eq_getElem?_getD, List.getElem?_append_left (by simpa using hi), List.getElem?_map, List.getElem?_range hi]; rfl
  · rw [List.getD_eq_getElem?_getD, List.getElem?_append_right (by simp), List.getElem?_map]
    simp [List.getElem?_range hi]
theorem tight_duals {I : Ins} {T : Nat → Nat → Int} {col u v : Nat → Int} {cost c : Int} (h : Tight (I.n + I.vans) (cellQ I T) col u v cost) (hc : c ≤ cost) : DualsZ I T c (dualN (I.n + I.vans) u v).2 := by
  have hl : (dualN (I.n + I.vans) u v).2.length = 2 * (I.n + I.vans) := by simp [dualN]; omega
  refine ⟨hl, ?_, fun i j hi hj ho => ?_⟩
  · rw [sum_halves hl]
    have h1 := h.sum
    rw [sumL_add] at h1
    have e1 : sumL (fun i => (dualN (I.n + I.vans) u v).2.getD i 0) (List.range (I.n + I.vans)) = sumL u (List.range (I.n + I.vans)) := sumL_congr fun x hx => (dual_get (by simpa using hx)).1
    have e2 : sumL (fun j => (dualN (I.n + I.vans) u v).2.getD (I.n + I.vans + j) 0) (List.range (I.n + I.vans)) = sumL v (List.range (I.n + I.vans)) := sumL_congr fun x hx => (dual_get (by simpa using hx)).2
    rw [e1, e2]; omega
  · rw [(dual_get hi).1, (dual_get hj).2]; exact h.under i j hi hj ho
theorem dual_ok {N : Nat} {u v : Nat → Int} (hN : 1 ≤ N) (hN' : N ≤ 10) (hu : ∀ i, i < N → -100000000 ≤ u i ∧ u i ≤ 100000000) (hv : ∀ i, i < N → -100000000 ≤ v i ∧ v i ≤ 100000000) : nodeOkT (dualN N u v) = true := by
  have hl : (dualN N u v).2.length = 2 * N := by simp [dualN]; omega
  have h1 : cntT (dualN N u v).1 (dualN N u v).2.length = true := by
    rw [hl]
    show cntT 2 (2 * N) = true
    unfold cntT
    rw [if_neg (by omega), if_pos rfl]
    simp; omega
  unfold nodeOkT
  rw [h1, Bool.true_and, List.all_eq_true]
  intro z hz
  have : z ∈ (List.range N).map u ++ (List.range N).map v := hz
  rcases List.mem_append.1 this with e | e
  · obtain ⟨i, hi, rfl⟩ := List.mem_map.1 e
    have := hu i (by simpa using hi)
    simp; omega
  · obtain ⟨i, hi, rfl⟩ := List.mem_map.1 e
    have := hv i (by simpa using hi)
    simp; omega
theorem hall_ok {N : Nat} {S : Nat → Bool} (hN' : N ≤ 10) (h : 0 < ((List.range N).filter S).length) : nodeOkT (hallN N S) = true := by
  have h2 : ((List.range N).filter S).length ≤ N := by simpa using List.length_filter_le S (List.range N)
  have h1 : cntT (hallN N S).1 (hallN N S).2.length = true := by
    show cntT 3 (((List.range N).filter S).map fun (i : Nat) => (i : Int)).length = true
    rw [List.length_map]
    unfold cntT
    rw [if_neg (by omega), if_neg (by omega), if_pos rfl]
    simp only [Bool.and_eq_true, decide_eq_true_eq]; omega
  unfold nodeOkT
  rw [h1, Bool.true_and, List.all_eq_true]
  intro z hz
  obtain ⟨i, hi, rfl⟩ := List.mem_map.1 (show z ∈ ((List.range N).filter S).map _ from hz)
  have : i < N := by simpa using (List.mem_filter.1 hi).1
  simp; omega

/- a tour that is no plan has a chain that no van can go along -/
structure ChOk (I : Ins) (bh : Nat → Nat) (fs : List Nat) (c : List Nat) : Prop where
  ok : ChainOk I bh fs c
  blk : BlockedQ I c
  len : c.length ≤ 9
theorem begs_ok {I : Ins} {bh : Nat → Nat} {fs : List Nat} (ht : TourQ I bh fs) {c : List Nat} (hc : c ∈ begsQ I.n fs) : ChainOk I bh fs c ∧ c.length ≤ 2 ∧ 1 ≤ c.length := by
  rcases List.mem_append.1 hc with e | e
  · obtain ⟨i, hi, rfl⟩ := List.mem_map.1 e
    have : i < I.n := by simpa using hi
    exact ⟨begin_stop bh fs (by omega), by simp, by simp⟩
  · obtain ⟨f, hf, rfl⟩ := List.mem_map.1 e
    exact ⟨begin_van bh hf (ht.fr f hf), by simp, by simp⟩
theorem weak_ok {I : Ins} (hI : InsOk I) (hn : I.n ≤ 7) {bh : Nat → Nat} {fs : List Nat} (ht : TourQ I bh fs) (T : Nat → Nat → Int) (hp : ¬ PlanQ I (fs.map (rtQ bh 7))) : ChOk I bh fs (weakQ I T bh fs) := by
  obtain ⟨h1, h2⟩ := weak_fold T ((begsQ I.n fs).map (chainQ I bh)) ([], 0)
  have hne : weakQ I T bh fs ≠ [] := fun e => by
    have h3 := (h2 e).2
    refine hp (tour_plan hI hn ht (fun s hs1 hs2 => ?_) (fun f hf => ?_)).1
    · exact h3 (chainQ I bh [s]) (List.mem_map.2 ⟨[s], List.mem_append.2 (.inl (List.mem_map.2 ⟨s - 1, by simp; omega, by simp; omega⟩)), rfl⟩)
    · exact h3 (chainQ I bh [0, f]) (List.mem_map.2 ⟨[0, f], List.mem_append.2 (.inr (List.mem_map.2 ⟨f, hf, rfl⟩)), rfl⟩)
  rcases h1 with h1 | h1
  · exact absurd h1 hne
  · obtain ⟨c, hc, e⟩ := List.mem_map.1 h1
    obtain ⟨k1, k2, k3⟩ := begs_ok ht hc
    have e' : weakQ I T bh fs = blkQ I bh (10 - c.length) c := e.symm
    rw [e'] at hne ⊢
    obtain ⟨m1, m2, m3⟩ := blk_some ht (10 - c.length) c k1 (by omega) hne
    exact ⟨m1, m2, m3⟩
theorem chain_arc {I : Ins} {col : Nat → Int} {c : List Nat} (h : ChainOk I (bhQ I.n col) (fsQ I.n I.vans col) c) {p : Nat × Nat} (hp : p ∈ nbr c) : p.1 ≤ I.n ∧ ArcOn I col p.1 p.2 := by
  obtain ⟨i, hi, e⟩ := nbr_getD c p hp
  refine ⟨?_, ?_⟩
  · rw [e]
    refine h.rng _ ?_
    rw [List.getD_eq_getElem?_getD, List.getElem?_eq_getElem (by omega)]; exact List.getElem_mem _
  · rcases h.on p hp with ⟨h1, h2⟩ | ⟨h1, h2⟩
    · exact .inl ⟨h1, h2⟩
    · exact .inr ⟨h1, h2⟩
theorem nbr_of_get : ∀ (c : List Nat) (i : Nat), i + 1 < c.length → (c.getD i 0, c.getD (i + 1) 0) ∈ nbr c := by
  intro c
  induction c with
  | nil => intro i h; simp at h
  | cons x c ih =>
    intro i h
    cases c with
    | nil => simp at h
    | cons y c =>
      cases i with
      | zero => simp [nbr]
      | succ i =>
        have := ih i (by simpa using h)
        show (((y :: c).getD i 0), ((y :: c).getD (i + 1) 0)) ∈ (x, y) :: nbr (y :: c)
        exact List.mem_cons_of_mem _ this
theorem nat_list (c : List Nat) : (c.map fun (s : Nat) => (s : Int)).map Int.toNat = c := by
  induction c with
  | nil => rfl
  | cons a c ih => rw [List.map_cons, List.map_cons, ih, Int.toNat_natCast]
theorem int_get (c : List Nat) (i : Nat) : ((c.map fun (s : Nat) => (s : Int)).getD i 0).toNat = c.getD i 0 := by
  rw [← getD_map_nat, nat_list]

structure NextOk (I : Ins) (P : PathT) (fc : Option RoutesQ) (nd : NodeT) (fc' : Option RoutesQ) : Prop where
  node : nodeOkT nd = true
  arc : nd.1 = 1 → ∃ a b : Nat, nd.2 = [(a : Int), (b : Int)] ∧ a ≤ I.n ∧ b ≤ I.n ∧ a ≠ b ∧ tabP P a b = 0 ∧ forcedP P + 1 ≤ I.n + I.vans
  hold : nd.1 ≠ 1 → ∀ cl, ClOk I fc' cl → HoldZ I cl (tabP P) nd
  less : ∀ R, fc = some R → ∃ R', fc' = some R' ∧ costQ I R' ≤ costQ I R
  plan : (∀ R, fc = some R → PlanQ I R) → ∀ R, fc' = some R → PlanQ I R
theorem next_ok {I : Ins} (hI : InsOk I) (hn : I.n ≤ 7) (hv : 1 ≤ I.vans) (hv3 : I.vans ≤ 3) {P : PathT} (hP : PathOk I.n P) (hg : GoodB I P) (fc : Option RoutesQ) : NextOk I P fc (nextQ I P fc).1 (nextQ I P fc).2 := by
  unfold nextQ
  by_cases hw : (resP I P).whole = false
  · rw [if_pos hw]
    obtain ⟨T, hT⟩ := hg.short hw
    have hf := hT.few
    exact ⟨hall_ok (by omega) (by omega), fun h => absurd h (by show ¬ (3 : Int) = 1; omega), fun _ cl _ => .inr (.inl ⟨rfl, short_hall hT⟩), fun R h => ⟨R, h, Int.le_refl _⟩, fun h => h⟩
  · rw [if_neg hw]
    have ht := hg.tight (by simpa using hw)
    have hok : nodeOkT (dualN (I.n + I.vans) (resP I P).u (resP I P).v) = true := dual_ok (by omega) (by omega) ht.ubd ht.vbd
    by_cases hb : ∃ R, fc = some R ∧ costQ I R ≤ (resP I P).cost
    · rw [if_pos hb]
      obtain ⟨R, h1, h2⟩ := hb
      refine ⟨hok, fun h => absurd h (by show ¬ (2 : Int) = 1; omega), fun _ cl hcl => ?_, fun R h => ⟨R, h, Int.le_refl _⟩, fun h => h⟩
      obtain ⟨c, e1, e2⟩ := hcl R h1
      exact .inl ⟨rfl, c, e1, tight_duals ht (by omega)⟩
    · rw [if_neg hb]
      have hto := tight_tour ht
      have hpa : ∀ f ∈ fsQ I.n I.vans (resP I P).col, ∃ d, PathQ (bhQ I.n (resP I P).col) f d ∧ d.length ≤ 7 := fun f hf => by
        obtain ⟨d, h1, h2⟩ := tour_path hto hf
        exact ⟨d, h1, by omega⟩
      by_cases hp : PlanQ I (tourR I (resP I P).col)
      · rw [if_pos hp]
        have hc := tour_cost ht hp hpa
        refine ⟨hok, fun h => absurd h (by show ¬ (2 : Int) = 1; omega), fun _ cl hcl => ?_, fun R h => ⟨_, rfl, ?_⟩, fun _ R h => by cases h; exact hp⟩
        · obtain ⟨c, e1, e2⟩ := hcl _ rfl
          have hc' : costQ I (tourR I (resP I P).col) = (resP I P).cost := hc
          exact .inl ⟨rfl, c, e1, tight_duals ht (by omega)⟩
        · have hc' : costQ I (tourR I (resP I P).col) = (resP I P).cost := hc
          have : ¬ costQ I R ≤ (resP I P).cost := fun hle => hb ⟨R, h, hle⟩
          omega
      · rw [if_neg hp]
        have hch := weak_ok hI hn hto (tabP P) hp
        generalize weakQ I (tabP P) (bhQ I.n (resP I P).col) (fsQ I.n I.vans (resP I P).col) = c at *
        have harc := fun p hp => chain_arc (p := p) hch.ok hp
        show NextOk I P fc (partQ (tabP P) c) fc
        unfold partQ
        cases hfi : (nbr c).find? (freeT (tabP P)) with
        | some p =>
          have hm := List.mem_of_find?_eq_some hfi
          have hfr := List.find?_some hfi
          unfold freeT at hfr
          rw [decide_eq_true_eq] at hfr
          obtain ⟨h1, h2⟩ := harc p hm
          obtain ⟨h3, h4, h5, h6⟩ := arc_open ht h1 h2
          refine ⟨?_, fun _ => ⟨p.1, p.2, rfl, h1, h5, h3, hfr.2, path_forced hP ht h1 h2 hfr.2⟩, fun h => absurd rfl h, fun R h => ⟨R, h, Int.le_refl _⟩, fun h => h⟩
          show nodeOkT (1, [(p.1 : Int), (p.2 : Int)]) = true
          have : -100000000 ≤ (p.1 : Int) ∧ (p.1 : Int) ≤ 100000000 ∧ -100000000 ≤ (p.2 : Int) ∧ (p.2 : Int) ≤ 100000000 := by omega
          simp [nodeOkT, cntT, this]
        | none =>
          have hall := List.find?_eq_none.1 hfi
          refine ⟨?_, fun h => absurd h (by show ¬ (4 : Int) = 1; omega), fun _ cl _ => .inr (.inr ⟨rfl, ⟨?_, ?_, ?_, ?_, ?_⟩⟩), fun R h => ⟨R, h, Int.le_refl _⟩, fun h => h⟩
          · show nodeOkT (4, c.map fun (s : Nat) => (s : Int)) = true
            have h1 : cntT 4 (c.map fun (s : Nat) => (s : Int)).length = true := by
              rw [List.length_map]
              unfold cntT
              rw [if_neg (by omega), if_neg (by omega), if_neg (by omega), if_pos rfl]
              have h9 := hch.len
              have h0 : 0 < c.length := List.length_pos_iff.2 hch.ok.ne
              simp only [Bool.and_eq_true, decide_eq_true_eq]; omega
            unfold nodeOkT
            rw [h1, Bool.true_and, List.all_eq_true]
            intro z hz
            obtain ⟨s, hs, rfl⟩ := List.mem_map.1 hz
            have := hch.ok.rng s hs
            simp; omega
          · intro e
            exact hch.ok.ne (by simpa using e)
          · intro x hx
            obtain ⟨s, hs, rfl⟩ := List.mem_map.1 hx
            have := hch.ok.rng s hs
            omega
          · intro i hi h0
            rw [List.length_map] at hi
            have h1 : c.getD (i + 1) 0 = 0 := by
              have := int_get c (i + 1)
              rw [h0] at this; omega
            have hsp : c = c.take (i + 1) ++ 0 :: c.drop (i + 2) := by
              have e1 : c = c.take (i + 1) ++ c.drop (i + 1) := (List.take_append_drop _ _).symm
              have e2 : c.drop (i + 1) = c[i + 1] :: c.drop (i + 2) := List.drop_eq_getElem_cons (by omega)
              have e3 : c[i + 1] = 0 := by rw [List.getD_eq_getElem?_getD, List.getElem?_eq_getElem (by omega), Option.getD_some] at h1; exact h1
              rw [e3] at e2
              rw [← e2]; exact e1
            rcases hch.ok.ends _ _ hsp with h2 | h2
            · have := congrArg List.length h2
              rw [List.length_take, List.length_nil] at this
              omega
            · have := congrArg List.length h2
              rw [List.length_drop, List.length_nil] at this
              omega
          · intro i hi
            rw [List.length_map] at hi
            rw [int_get, int_get]
            have hm := nbr_of_get c i hi
            obtain ⟨h1, h2⟩ := harc _ hm
            obtain ⟨h3, h4, h5, h6⟩ := arc_open ht h1 h2
            have h7 := hall _ hm
            have h8 : ¬ tabP P (c.getD i 0) (c.getD (i + 1) 0) = 0 := fun e => h7 (by unfold freeT; rw [decide_eq_true_eq]; exact ⟨h3, e⟩)
            rcases tab_range hP (c.getD i 0) (c.getD (i + 1) 0) with e | e | e
            · exact absurd e h8
            · exact e
            · exact absurd e h4
          · rw [nat_list]; exact hch.blk

/- the search, node by node -/
structure SInv (I : Ins) (s : SSt) : Prop where
  path : PathOk I.n s.P
  walk : ∀ cl, ClOk I s.fc cl → walkW I cl [] s.L = some s.P
  tree : ∀ M, treeT 1 (s.L ++ M) = treeT (1 + forcedP s.P) M
  pot : s.L.length + potN s.P ≤ bqN 56 10
  plan : ∀ R, s.fc = some R → PlanQ I R
structure SEnd (I : Ins) (s : SSt) : Prop where
  walk : ∀ cl, ClOk I s.fc cl → walkW I cl [] s.L = some []
  tree : treeT 1 s.L = true
  len : s.L.length ≤ bqN 56 10
  plan : ∀ R, s.fc = some R → PlanQ I R
theorem walkW_snoc (I : Ins) (cl : Option Int) : ∀ (l : List NodeT) (P P' : PathT) (nd : NodeT), walkW I cl P l = some P' → walkW I cl P (l ++ [nd]) = stepW I cl P' nd := by
  intro l
  induction l with
  | nil =>
    intro P P' nd h
    cases h
    rw [List.nil_append, walkW_cons]
    cases stepW I cl P nd <;> rfl
  | cons x l ih =>
    intro P P' nd h
    rw [List.cons_append, walkW_cons]
    rw [walkW_cons] at h
    cases hs : stepW I cl P x with
    | none => rw [hs] at h; cases h
    | some P1 => rw [hs] at h; exact ih P1 P' nd h
theorem start_inv (I : Ins) : SInv I ⟨[], [], none⟩ := by
  refine ⟨PathOk.nil, fun cl _ => rfl, fun M => by rw [List.nil_append]; rfl, ?_, fun R h => by cases h⟩
  show 0 + potN [] ≤ bqN 56 10
  unfold potN pendN forcedP
  simp
theorem leave_some : ∀ (P : PathT), 0 < forcedP P → leaveP P ≠ [] := by
  intro P
  induction P with
  | nil => intro h; cases h
  | cons p P ih =>
    intro h
    unfold leaveP
    by_cases hp : p.2 = true
    · rw [if_pos hp]; simp
    · rw [if_neg hp]
      refine ih ?_
      unfold forcedP at h ⊢
      rwa [List.filter_cons_of_neg hp] at h
theorem treeT_cons (o : Nat) (nd : NodeT) (l : List NodeT) : treeT o (nd :: l) = (o != 0 && nodeOkT nd && treeT (nextT o nd.1) l) := rfl
theorem step_inv {I : Ins} (hI : InsOk I) (hn : I.n ≤ 7) (hv : 1 ≤ I.vans) (hv3 : I.vans ≤ 3) {s : SSt} (h : SInv I s) (hg : GoodB I s.P) :
    ((stepG I s).2 = false → SInv I (stepG I s).1) ∧ ((stepG I s).2 = true → SEnd I (stepG I s).1) ∧ ((stepG I s).1.L.length = s.L.length + 1) ∧ (∀ R, s.fc = some R → ∃ R', (stepG I s).1.fc = some R' ∧ costQ I R' ≤ costQ I R) := by
  have hx := next_ok hI hn hv hv3 h.path hg s.fc
  unfold stepG
  generalize nextQ I s.P s.fc = x at *
  obtain ⟨nd, fc'⟩ := x
  dsimp only at hx ⊢
  have hcl : ∀ cl, ClOk I fc' cl → ClOk I s.fc cl := fun cl hc R hR => by
    obtain ⟨R', h1, h2⟩ := hx.less R hR
    obtain ⟨c, h3, h4⟩ := hc R' h1
    exact ⟨c, h3, by omega⟩
  by_cases hk : nd.1 = 1
  · rw [if_pos hk]
    obtain ⟨a, b, e, ha, hb, hab, h0, hf⟩ := hx.arc hk
    have e0 : (nd.2.getD 0 0).toNat = a := by rw [e]; rfl
    have e1 : (nd.2.getD 1 0).toNat = b := by rw [e]; rfl
    rw [e0, e1]
    have hP' : PathOk I.n (((a, b), true) :: s.P) := PathOk.cons ha hb hab h0 h.path
    have hd := path_depth hn hP'
    rw [List.length_cons] at hd
    have hpb := pot_branch (ab := (a, b)) (P := s.P) (by omega) (by omega)
    have hfo : forcedP (((a, b), true) :: s.P) = forcedP s.P + 1 := by unfold forcedP; rw [List.filter_cons_of_pos rfl]; simp
    refine ⟨fun _ => ⟨hP', fun cl hc => ?_, fun M => ?_, ?_, fun R hR => hx.plan h.plan R hR⟩, fun h => (by cases h), by simp, hx.less⟩
    · show walkW I cl [] (s.L ++ [nd]) = _
      rw [walkW_snoc I cl _ _ _ _ (h.walk cl (hcl cl hc))]
      unfold stepW
      have ez0 : nd.2.getD 0 0 = (a : Int) := by rw [e]; rfl
      have ez1 : nd.2.getD 1 0 = (b : Int) := by rw [e]; rfl
      rw [if_pos hk, if_pos ⟨⟨by rw [ez0]; omega, by rw [ez0]; omega, by rw [ez1]; omega, by rw [ez1]; omega, by rw [ez0, ez1]; omega⟩, by rw [e0, e1]; exact h0⟩, e0, e1]
    · show treeT 1 ((s.L ++ [nd]) ++ M) = treeT (1 + forcedP (((a, b), true) :: s.P)) M
      rw [List.append_assoc, List.singleton_append, h.tree, treeT_cons, hx.node, hfo]
      unfold nextT
      rw [if_pos hk]
      have : ((1 + forcedP s.P) != 0) = true := by simp
      rw [this]; rfl
    · show (s.L ++ [nd]).length + potN (((a, b), true) :: s.P) ≤ _
      have := h.pot
      simp; omega
  · rw [if_neg hk]
    dsimp only
    have hst : ∀ cl, ClOk I fc' cl → walkW I cl [] (s.L ++ [nd]) = some (leaveP s.P) := fun cl hc => by
      rw [walkW_snoc I cl _ _ _ _ (h.walk cl (hcl cl hc))]
      unfold stepW
      rw [if_neg hk, if_pos (hx.hold hk cl hc)]
    have htr : ∀ M, treeT 1 ((s.L ++ [nd]) ++ M) = treeT (forcedP s.P) M := fun M => by
      rw [List.append_assoc, List.singleton_append, h.tree, treeT_cons, hx.node]
      unfold nextT
      rw [if_neg hk]
      have : ((1 + forcedP s.P) != 0) = true := by simp
      rw [this, show 1 + forcedP s.P - 1 = forcedP s.P by omega]; rfl
    have hp := h.pot
    have hpos : 1 ≤ potN s.P := by unfold potN; have := bq_pos (56 - s.P.length) (10 - forcedP s.P); omega
    refine ⟨fun hb => ?_, fun hb => ?_, by simp, hx.less⟩
    · have hne : leaveP s.P ≠ [] := fun e => by rw [e] at hb; cases hb
      have hfp : 0 < forcedP s.P := Classical.byContradiction fun h0 => hne (leave_none s.P (by omega))
      refine ⟨path_leave h.path, hst, fun M => ?_, ?_, fun R hR => hx.plan h.plan R hR⟩
      · show treeT 1 ((s.L ++ [nd]) ++ M) = treeT (1 + forcedP (leaveP s.P)) M
        rw [htr, leave_forced, show 1 + (forcedP s.P - 1) = forcedP s.P by omega]
      · have h1 := pot_leave s.P hfp
        have h2 := bq_pos (56 - s.P.length) (10 - forcedP s.P)
        unfold potN at hp
        show (s.L ++ [nd]).length + potN (leaveP s.P) ≤ _
        simp; omega
    · have hemp : leaveP s.P = [] := by simpa using hb
      have hfo : forcedP s.P = 0 := Classical.byContradiction fun h0 => by
        have := leave_some s.P (by omega)
        exact this hemp
      refine ⟨fun cl hc => by rw [hst cl hc, hemp], ?_, ?_, fun R hR => hx.plan h.plan R hR⟩
      · have := htr []
        rw [List.append_nil, hfo] at this
        rw [this]; rfl
      · show (s.L ++ [nd]).length ≤ _
        simp; omega
end Go.Proofs.YtebinaopncclgabGreatDoor
namespace Go.Proofs.YtebinaopncclgabGreatDoor

theorem grw_next {I : Ins} {k : Nat} (h : (growG I k).2 = false) : growG I (k + 1) = stepG I (growG I k).1 := by
  show (if (growG I k).2 = true then growG I k else stepG I (growG I k).1) = _
  rw [if_neg (by rw [h]; simp)]
theorem grw_stop {I : Ins} {k : Nat} (h : (growG I k).2 = true) : growG I (k + 1) = growG I k := by
  show (if (growG I k).2 = true then growG I k else stepG I (growG I k).1) = _
  rw [if_pos h]
theorem grw_stay {I : Ins} {k : Nat} (h : (growG I k).2 = true) : ∀ m, k ≤ m → growG I m = growG I k := by
  intro m hm
  obtain ⟨d, rfl⟩ : ∃ d, m = k + d := ⟨m - k, by omega⟩
  induction d with
  | zero => rfl
  | succ d ih =>
    have e := ih (by omega)
    have : growG I (k + (d + 1)) = growG I (k + d + 1) := rfl
    rw [this, grw_stop (by rw [e]; exact h), e]
theorem grw_open {I : Ins} {k : Nat} (h : (growG I k).2 = false) {j : Nat} (hj : j ≤ k) : (growG I j).2 = false := by
  cases hb : (growG I j).2 with
  | false => rfl
  | true => rw [grw_stay hb k hj, hb] at h; cases h
def GoodTo (I : Ins) (k : Nat) : Prop := ∀ j, j < k → (growG I j).2 = false → GoodB I (growG I j).1.P
theorem GoodTo.le {I : Ins} {k m : Nat} (h : GoodTo I k) (hm : m ≤ k) : GoodTo I m := fun j hj => h j (by omega)
theorem grw_inv {I : Ins} (hI : InsOk I) (hn : I.n ≤ 7) (hv : 1 ≤ I.vans) (hv3 : I.vans ≤ 3) : ∀ k, GoodTo I k →
    ((growG I k).2 = false → SInv I (growG I k).1 ∧ (growG I k).1.L.length = k) ∧ ((growG I k).2 = true → SEnd I (growG I k).1 ∧ (growG I k).1.L.length ≤ k ∧ 1 ≤ (growG I k).1.L.length ∧ growG I (growG I k).1.L.length = growG I k ∧ ∀ j, j < (growG I k).1.L.length → (growG I j).2 = false) := by
  intro k
  induction k with
  | zero => intro _; exact ⟨fun _ => ⟨start_inv I, rfl⟩, fun h => by cases h⟩
  | succ k ih =>
    intro hg
    obtain ⟨h1, h2⟩ := ih (hg.le (by omega))
    cases hb : (growG I k).2 with
    | true =>
      rw [grw_stop hb]
      obtain ⟨a, b, c, d, e⟩ := h2 hb
      exact ⟨fun h => (by rw [hb] at h; cases h), fun _ => ⟨a, by omega, c, d, e⟩⟩
    | false =>
      obtain ⟨hi, hl⟩ := h1 hb
      have hs := step_inv hI hn hv hv3 hi (hg k (by omega) hb)
      rw [← grw_next hb] at hs
      refine ⟨fun h => ⟨hs.1 h, by rw [hs.2.2.1, hl]⟩, fun h => ?_⟩
      have hlen : (growG I (k + 1)).1.L.length = k + 1 := by rw [hs.2.2.1, hl]
      refine ⟨hs.2.1 h, by omega, by omega, by rw [hlen], fun j hj => ?_⟩
      rw [hlen] at hj
      exact grw_open hb (by omega)
theorem grw_less {I : Ins} (hI : InsOk I) (hn : I.n ≤ 7) (hv : 1 ≤ I.vans) (hv3 : I.vans ≤ 3) {k : Nat} : ∀ m, k ≤ m → GoodTo I m → ∀ R, (growG I k).1.fc = some R → ∃ R', (growG I m).1.fc = some R' ∧ costQ I R' ≤ costQ I R := by
  intro m hm hg R hR
  obtain ⟨d, rfl⟩ : ∃ d, m = k + d := ⟨m - k, by omega⟩
  induction d with
  | zero => exact ⟨R, hR, Int.le_refl _⟩
  | succ d ih =>
    obtain ⟨R1, h1, h2⟩ := ih (by omega) (hg.le (by omega))
    cases hb : (growG I (k + d)).2 with
    | true => refine ⟨R1, ?_, h2⟩; show (growG I (k + d + 1)).1.fc = _; rw [grw_stop hb]; exact h1
    | false =>
      obtain ⟨hi, _⟩ := (grw_inv hI hn hv hv3 (k + d) (hg.le (by omega))).1 hb
      obtain ⟨R2, h3, h4⟩ := (step_inv hI hn hv hv3 hi (hg (k + d) (by omega) hb)).2.2.2 R1 h1
      rw [← grw_next hb] at h3
      exact ⟨R2, h3, by omega⟩

/- how many nodes there are at most -/
def rowB : Nat → List Nat
  | 0 => [1, 1, 1, 1, 1, 1, 1, 1, 1, 1, 1]
  | d + 1 => 1 :: (List.range 10).map fun f => 1 + (rowB d).getD f 0 + (rowB d).getD (f + 1) 0
theorem rowB_at : ∀ d f, f ≤ 10 → (rowB d).getD f 0 = bqN d f := by
  intro d
  induction d with
  | zero =>
    intro f hf
    have : f = 0 ∨ f = 1 ∨ f = 2 ∨ f = 3 ∨ f = 4 ∨ f = 5 ∨ f = 6 ∨ f = 7 ∨ f = 8 ∨ f = 9 ∨ f = 10 := by omega
    rcases this with rfl | rfl | rfl | rfl | rfl | rfl | rfl | rfl | rfl | rfl | rfl <;> rfl
  | succ d ih =>
    intro f hf
    cases f with
    | zero => rfl
    | succ f =>
      have h1 := ih f (by omega)
      have h2 := ih (f + 1) (by omega)
      rw [bqN_succ, ← h1, ← h2]
      show (1 :: (List.range 10).map fun f => 1 + (rowB d).getD f 0 + (rowB d).getD (f + 1) 0).getD (f + 1) 0 = _
      rw [List.getD_cons_succ, List.getD_eq_getElem?_getD, List.getElem?_map, List.getElem?_range (by omega)]
      rfl
theorem bq_bound : bqN 56 10 ≤ 90000000000 := by
  rw [← rowB_at 56 10 (by omega)]
  decide +kernel
theorem grw_ends {I : Ins} (hI : InsOk I) (hn : I.n ≤ 7) (hv : 1 ≤ I.vans) (hv3 : I.vans ≤ 3) {k : Nat} (hk : 90000000000 < k) (hg : GoodTo I k) : (growG I k).2 = true := by
  cases hb : (growG I k).2 with
  | true => rfl
  | false =>
    obtain ⟨h1, h2⟩ := (grw_inv hI hn hv hv3 k hg).1 hb
    have h3 := h1.pot
    have h4 := bq_bound
    omega
end Go.Proofs.YtebinaopncclgabGreatDoor
namespace Go.Proofs.YtebinaopncclgabGreatDoor

def digB (ρ : List Nat) : List UInt8 := ρ.map fun s => UInt8.ofNat (48 + s)
def planB : RoutesQ → List UInt8
  | [] => []
  | ρ :: R => digB ρ ++ (R.map fun ρ => 47 :: digB ρ).flatten
theorem planB_snoc (R : RoutesQ) (ρ : List Nat) : planB (R ++ [ρ]) = planB R ++ (if R = [] then [] else [47]) ++ digB ρ := by
  cases R with
  | nil => simp [planB]
  | cons a R => simp [planB]
theorem dig_nat {s : Nat} (h : s ≤ 9) : (UInt8.ofNat (48 + s)).toNat = 48 + s := by simp; omega
theorem dig_ne {s : Nat} (h : 1 ≤ s ∧ s ≤ 9) : UInt8.ofNat (48 + s) ≠ 47 := fun e => by
  have := congrArg UInt8.toNat e
  rw [dig_nat h.2] at this
  have h2 : (47 : UInt8).toNat = 47 := rfl
  omega
theorem dig_back {ρ : List Nat} (h : ∀ s ∈ ρ, 1 ≤ s ∧ s ≤ 9) : digN (digB ρ) = ρ := by
  induction ρ with
  | nil => rfl
  | cons s ρ ih =>
    have h1 := ih fun x hx => h x (by simp [hx])
    have h2 := h s (by simp)
    show ((UInt8.ofNat (48 + s)).toNat - 48) :: digN (digB ρ) = _
    rw [h1, dig_nat h2.2]; congr 1; omega
theorem dig_mem {ρ : List Nat} (h : ∀ s ∈ ρ, 1 ≤ s ∧ s ≤ 9) : (47 : UInt8) ∉ digB ρ := fun hm => by
  obtain ⟨s, hs, e⟩ := List.mem_map.1 hm
  exact dig_ne (h s hs) e
theorem plan_split : ∀ (R : RoutesQ), R ≠ [] → (∀ ρ ∈ R, ∀ s ∈ ρ, 1 ≤ s ∧ s ≤ 9) → (splitR 47 (planB R)).map digN = R := by
  intro R
  induction R with
  | nil => intro h; exact absurd rfl h
  | cons ρ R ih =>
    intro _ h
    have h1 := h ρ (by simp)
    cases R with
    | nil =>
      show (splitR 47 (digB ρ ++ [])).map digN = [ρ]
      rw [List.append_nil, splitR_none (dig_mem h1)]
      simp [dig_back h1]
    | cons σ R =>
      have h2 := ih (by simp) (fun τ hτ => h τ (by simp [hτ]))
      have e : planB (ρ :: σ :: R) = digB ρ ++ 47 :: planB (σ :: R) := by simp [planB]
      rw [e, splitR_at (dig_mem h1), List.map_cons, h2, dig_back h1]
theorem plan_routes {R : RoutesQ} (hne : ∀ ρ ∈ R, ρ ≠ []) (h : ∀ ρ ∈ R, ∀ s ∈ ρ, 1 ≤ s ∧ s ≤ 9) : routesN (planB R) = R := by
  unfold routesN
  cases R with
  | nil => rfl
  | cons ρ R =>
    have hp : planB (ρ :: R) ≠ [] := fun e => by
      have h1 := hne ρ (by simp)
      have : digB ρ = [] := (List.append_eq_nil_iff.1 e).1
      unfold digB at this
      exact h1 (List.map_eq_nil_iff.1 this)
    rw [if_neg hp, split_R]
    exact plan_split _ (by simp) h
theorem dig_go {n : Nat} (hn : n ≤ 9) : ∀ (ρ : List Nat) (k : Nat), (∀ s ∈ ρ, 1 ≤ s ∧ s ≤ n) → (digB ρ).foldl (plStep n) (some k) = some (k + ρ.length) := by
  intro ρ
  induction ρ with
  | nil => intro k _; rfl
  | cons s ρ ih =>
    intro k h
    have h1 := h s (by simp)
    show (digB ρ).foldl (plStep n) (plStep n (some k) (UInt8.ofNat (48 + s))) = _
    have e : plStep n (some k) (UInt8.ofNat (48 + s)) = some (k + 1) := by
      show (if UInt8.ofNat (48 + s) = 47 then (if k = 0 then none else some 0) else if (UInt8.ofNat (48 + s)).toNat < 49 ∨ n < (UInt8.ofNat (48 + s)).toNat - 48 then none else some (k + 1)) = some (k + 1)
      rw [if_neg (dig_ne (by omega)), dig_nat (by omega), if_neg (by omega)]
    rw [e, ih (k + 1) fun x hx => h x (by simp [hx]), List.length_cons]
    congr 1; omega
theorem plan_go {n : Nat} (hn : n ≤ 9) : ∀ (R : RoutesQ) (k : Nat), 0 < k → (∀ ρ ∈ R, ρ ≠ []) → (∀ ρ ∈ R, ∀ s ∈ ρ, 1 ≤ s ∧ s ≤ n) → ∃ m, 0 < m ∧ ((R.map fun ρ => 47 :: digB ρ).flatten).foldl (plStep n) (some k) = some m := by
  intro R
  induction R with
  | nil => intro k hk _ _; exact ⟨k, hk, rfl⟩
  | cons ρ R ih =>
    intro k hk h1 h2
    have h3 : 0 < ρ.length := List.length_pos_iff.2 (h1 ρ (by simp))
    rw [List.map_cons, List.flatten_cons, List.foldl_append, List.foldl_cons]
    have e : plStep n (some k) 47 = some 0 := by
      show (if (47 : UInt8) = 47 then (if k = 0 then none else some 0) else if (47 : UInt8).toNat < 49 ∨ n < (47 : UInt8).toNat - 48 then none else some (k + 1)) = some 0
      rw [if_pos rfl, if_neg (by omega)]
    rw [e, dig_go hn ρ 0 (h2 ρ (by simp))]
    exact ih _ (by omega) (fun τ hτ => h1 τ (by simp [hτ])) (fun τ hτ => h2 τ (by simp [hτ]))
theorem plan_is {n : Nat} (hn : n ≤ 9) {R : RoutesQ} (hne : ∀ ρ ∈ R, ρ ≠ []) (h : ∀ ρ ∈ R, ∀ s ∈ ρ, 1 ≤ s ∧ s ≤ n) : isPlanS n (planB R) = true := by
  cases R with
  | nil => rfl
  | cons ρ R =>
    have h3 : 0 < ρ.length := List.length_pos_iff.2 (hne ρ (by simp))
    obtain ⟨m, hm, e⟩ := plan_go hn R ρ.length h3 (fun τ hτ => hne τ (by simp [hτ])) (fun τ hτ => h τ (by simp [hτ]))
    unfold isPlanS plGo
    show (match (digB ρ ++ (R.map fun ρ => 47 :: digB ρ).flatten).foldl (plStep n) (some 0) with | none => false | some len => decide (0 < len) || (planB (ρ :: R)).isEmpty) = true
    rw [List.foldl_append, dig_go hn ρ 0 (h ρ (by simp)), Nat.zero_add, e]
    simp [hm]
/- what is told of the plan found so far -/
def planV : Option RoutesQ → List UInt8
  | none => [110, 111, 110, 101]
  | some R => planB R
def costV (I : Ins) : Option RoutesQ → Int
  | none => 0
  | some R => costQ I R
/- the routes of a tour -/
theorem rt_range {I : Ins} {bh : Nat → Nat} (hr : ∀ s, 1 ≤ s → s ≤ I.n → bh s ≤ I.n) : ∀ (f s : Nat), s ≤ I.n → ∀ x ∈ rtQ bh f s, 1 ≤ x ∧ x ≤ I.n := by
  intro f
  induction f with
  | zero => intro s _ x hx; cases hx
  | succ f ih =>
    intro s hs x hx
    unfold rtQ at hx
    by_cases h0 : s = 0
    · rw [if_pos h0] at hx; cases hx
    · rw [if_neg h0] at hx
      rcases List.mem_cons.1 hx with e | e
      · rw [e]; omega
      · exact ih _ (hr s (by omega) hs) x e
theorem tour_text {I : Ins} (hn : I.n ≤ 7) {col : Nat → Int} (ht : TourQ I (bhQ I.n col) (fsQ I.n I.vans col)) : routesN (planB (tourR I col)) = tourR I col ∧ isPlanS I.n (planB (tourR I col)) = true := by
  have h1 : ∀ ρ ∈ tourR I col, ρ ≠ [] := fun ρ hρ => by
    obtain ⟨f, hf, rfl⟩ := List.mem_map.1 hρ
    have := ht.fr f hf
    unfold rtQ
    rw [if_neg (by omega)]; simp
  have h2 : ∀ ρ ∈ tourR I col, ∀ s ∈ ρ, 1 ≤ s ∧ s ≤ I.n := fun ρ hρ s hs => by
    obtain ⟨f, hf, rfl⟩ := List.mem_map.1 hρ
    exact rt_range ht.rng 7 f (ht.fr f hf).2 s hs
  exact ⟨plan_routes h1 fun ρ hρ s hs => (by have := h2 ρ hρ s hs; omega), plan_is (by omega) h1 h2⟩
/- Judge tells whether a tour is a plan -/
theorem judge_tour {r : Rd} (hok : RdOk r) {D : Nat → Nat → Int} {col : Nat → Int} (hn : r.stops.length ≤ 7) (ht : TourQ (insOf r D) (bhQ r.stops.length col) (fsQ r.stops.length r.vans.toNat col)) :
    (PlanQ (insOf r D) (tourR (insOf r D) col) → ∃ S, judgeS r D (planB (tourR (insOf r D) col)) = (costQ (insOf r D) (tourR (insOf r D) col), some S, 0)) ∧ (¬ PlanQ (insOf r D) (tourR (insOf r D) col) → (judgeS r D (planB (tourR (insOf r D) col))).2.2 ≠ 0) := by
  obtain ⟨h1, h2⟩ := tour_text (I := insOf r D) hn ht
  have h3 := judge_iff hok (D := D) (l := planB (tourR (insOf r D) col))
  rw [h1] at h3
  refine ⟨fun hp => ?_, fun hp h0 => hp ?_⟩
  · obtain ⟨c, S, e⟩ := h3.2 ⟨h2, hp⟩
    have hc := judge_cost e
    rw [h1] at hc
    exact ⟨S, by rw [e, hc]⟩
  · refine (h3.1 ?_).2
    unfold judgeS at h0 ⊢
    split at h0
    · rename_i hf
      exact absurd h0 hf
    · rename_i hf
      rw [if_neg hf]
      split at h0
      · exact absurd h0 (by simp)
      · rename_i hf2
        rw [if_neg hf2]
        split at h0
        · exact absurd h0 (by simp)
        · rename_i hf3
          rw [if_neg hf3]
          split at h0
          · exact absurd h0 (by simp)
          · rename_i hf4
            rw [if_neg hf4]
            cases ht : timesS r D (routesS (planB (tourR (insOf r D) col))) (List.replicate r.stops.length 0) with
            | none => rw [ht] at h0; exact absurd h0 (by simp)
            | some S => exact ⟨_, _, rfl⟩
end Go.Proofs.YtebinaopncclgabGreatDoor
