/- Plain: a match of the cells is a tour; a tour that no chain blocks is a plan. No program in sight. -/
import Derived.Test.YtebinaopncclgaaQUnder
namespace Go.Proofs.Ytebinaopncclgaa

structure TourQ (I : Ins) (bh : Nat → Nat) (fs : List Nat) : Prop where
  rng : ∀ s, 1 ≤ s → s ≤ I.n → bh s ≤ I.n
  fr : ∀ f ∈ fs, 1 ≤ f ∧ f ≤ I.n
  few : fs.length ≤ I.vans
  fnd : fs.Nodup
  inj : ∀ s t, 1 ≤ s → s ≤ I.n → 1 ≤ t → t ≤ I.n → bh s = bh t → bh s ≠ 0 → s = t
  sep : ∀ s, 1 ≤ s → s ≤ I.n → bh s ∉ fs
  all : ∀ b, 1 ≤ b → b ≤ I.n → b ∈ fs ∨ ∃ s, 1 ≤ s ∧ s ≤ I.n ∧ bh s = b
/- from a site on to the depot -/
inductive PathQ (bh : Nat → Nat) : Nat → List Nat → Prop
  | home : PathQ bh 0 []
  | next {x : Nat} {d : List Nat} : x ≠ 0 → PathQ bh (bh x) d → PathQ bh x (bh x :: d)
theorem PathQ.one {bh : Nat → Nat} {x : Nat} {d : List Nat} (h : PathQ bh x d) : ∀ {e : List Nat}, PathQ bh x e → d = e := by
  induction h with
  | home => intro e he; cases he with
    | home => rfl
    | next h0 _ => exact absurd rfl h0
  | next h0 _ ih => intro e he; cases he with
    | home => exact absurd rfl h0
    | next _ h2 => rw [ih h2]
def rtQ (bh : Nat → Nat) : Nat → Nat → List Nat
  | 0, _ => []
  | f + 1, s => if s = 0 then [] else s :: rtQ bh f (bh s)
theorem rtQ_path {bh : Nat → Nat} {x : Nat} {d : List Nat} (h : PathQ bh x d) : ∀ f, d.length ≤ f → x :: d = rtQ bh f x ++ [0] ∧ (rtQ bh f x).map bh = d := by
  induction h with
  | home =>
    intro f _
    cases f with
    | zero => exact ⟨rfl, rfl⟩
    | succ f => unfold rtQ; rw [if_pos rfl]; exact ⟨rfl, rfl⟩
  | next h0 _ ih =>
    intro f hf
    cases f with
    | zero => simp at hf
    | succ f =>
      obtain ⟨h1, h2⟩ := ih f (by simpa using hf)
      unfold rtQ
      rw [if_neg h0]
      exact ⟨by rw [List.cons_append, ← h1], by rw [List.map_cons, h2]⟩
/- a chain goes on along the tour until it is blocked or at home -/
open Classical in
noncomputable def blkQ (I : Ins) (bh : Nat → Nat) : Nat → List Nat → List Nat
  | 0, _ => []
  | f + 1, c => if BlockedQ I c then c else if c.getLast?.getD 0 = 0 then [] else blkQ I bh f (c ++ [bh (c.getLast?.getD 0)])
theorem last_snoc (c : List Nat) (x : Nat) : (c ++ [x]).getLast?.getD 0 = x := by simp
/- along the tour -/
def OnTour (bh : Nat → Nat) (fs : List Nat) (c : List Nat) : Prop := ∀ p ∈ nbr c, (p.1 ≠ 0 ∧ p.2 = bh p.1) ∨ (p.1 = 0 ∧ p.2 ∈ fs)
theorem nbr_snoc (c : List Nat) (x : Nat) (h : c ≠ []) : nbr (c ++ [x]) = nbr c ++ [(c.getLast?.getD 0, x)] := by
  obtain ⟨a, y, rfl⟩ : ∃ a y, c = a ++ [y] := ⟨c.dropLast, c.getLast h, (List.dropLast_concat_getLast h).symm⟩
  rw [last_snoc, List.append_assoc]
  show nbr (a ++ y :: [x]) = _
  rw [nbr_app]; rfl
structure ChainOk (I : Ins) (bh : Nat → Nat) (fs : List Nat) (c : List Nat) : Prop where
  ne : c ≠ []
  rng : ∀ s ∈ c, s ≤ I.n
  on : OnTour bh fs c
  ends : ∀ u v, c = u ++ 0 :: v → u = [] ∨ v = []
theorem ChainOk.snoc {I : Ins} {bh : Nat → Nat} {fs : List Nat} {c : List Nat} (ht : TourQ I bh fs) (h : ChainOk I bh fs c) (h0 : c.getLast?.getD 0 ≠ 0) : ChainOk I bh fs (c ++ [bh (c.getLast?.getD 0)]) := by
  have hl : c.getLast?.getD 0 ∈ c := by
    obtain ⟨a, y, rfl⟩ : ∃ a y, c = a ++ [y] := ⟨c.dropLast, c.getLast h.ne, (List.dropLast_concat_getLast h.ne).symm⟩
    rw [last_snoc]; simp
  refine ⟨by simp, fun s hs => ?_, fun p hp => ?_, fun u v e => ?_⟩
  · rcases List.mem_append.1 hs with e | e
    · exact h.rng s e
    · simp only [List.mem_singleton] at e
      rw [e]; exact ht.rng _ (by omega) (h.rng _ hl)
  · rw [nbr_snoc c _ h.ne] at hp
    rcases List.mem_append.1 hp with e | e
    · exact h.on p e
    · simp only [List.mem_singleton] at e
      rw [e]; exact .inl ⟨h0, rfl⟩
  · by_cases hv : v = []
    · exact .inr hv
    · left
      obtain ⟨v', y, rfl⟩ : ∃ v' y, v = v' ++ [y] := ⟨v.dropLast, v.getLast hv, (List.dropLast_concat_getLast hv).symm⟩
      have e2 : c ++ [bh (c.getLast?.getD 0)] = (u ++ 0 :: v') ++ [y] := by rw [e]; simp
      have e3 := (List.append_inj' e2 rfl).1
      rcases h.ends u v' e3 with h1 | h1
      · exact h1
      · subst h1
        rw [e3, last_snoc] at h0
        exact absurd rfl h0
theorem blk_some {I : Ins} {bh : Nat → Nat} {fs : List Nat} (ht : TourQ I bh fs) : ∀ (f : Nat) (c : List Nat), ChainOk I bh fs c → c.length + f = 10 → blkQ I bh f c ≠ [] → ChainOk I bh fs (blkQ I bh f c) ∧ BlockedQ I (blkQ I bh f c) ∧ (blkQ I bh f c).length ≤ 9 := by
  intro f
  induction f with
  | zero => intro c _ _ h; exact absurd rfl h
  | succ f ih =>
    intro c hc hl h
    unfold blkQ at h ⊢
    by_cases hb : BlockedQ I c
    · rw [if_pos hb]; exact ⟨hc, hb, by omega⟩
    · rw [if_neg hb] at h ⊢
      by_cases h0 : c.getLast?.getD 0 = 0
      · rw [if_pos h0] at h; exact absurd rfl h
      · rw [if_neg h0] at h ⊢
        exact ih _ (hc.snoc ht h0) (by simp; omega) h
theorem blk_none {I : Ins} {bh : Nat → Nat} {fs : List Nat} (hn : I.n ≤ 7) (ht : TourQ I bh fs) : ∀ (f : Nat) (c : List Nat), ChainOk I bh fs c → c.length + f = 10 → (f = 0 → ¬ twiceQ c) → (∀ s ∈ c.tail, s ≠ 0) ∨ (∃ a, c = a ++ [0] ∧ (∀ s ∈ a.tail, s ≠ 0)) → blkQ I bh f c = [] → ∃ d, PathQ bh (c.getLast?.getD 0) d ∧ ¬ BlockedQ I (c ++ d) := by
  intro f
  induction f with
  | zero =>
    intro c hc hl htw hz _
    exfalso
    have hlen : c.length = 10 := by omega
    have hnd := Classical.not_not.1 (htw rfl)
    have h1 := nodup_sub _ ((List.range I.n).map (· + 1)) hnd fun s hs => by
      obtain ⟨h1, h2⟩ := List.mem_filter.1 hs
      have h3 := hc.rng s h1
      have h4 : s ≠ 0 := by simpa using h2
      exact List.mem_map.2 ⟨s - 1, by simp; omega, by omega⟩
    rw [List.length_map, List.length_range] at h1
    have hf : ∀ (l : List Nat), (∀ s ∈ l, s ≠ 0) → (l.filter fun s => decide (s ≠ 0)) = l := fun l h => filter_all h
    rcases hz with hz | ⟨a, rfl, hz⟩
    · cases c with
      | nil => simp at hlen
      | cons x c =>
        have h2 : (c.filter fun s => decide (s ≠ 0)).length ≤ ((x :: c).filter fun s => decide (s ≠ 0)).length := by
          rw [List.filter_cons]; split <;> simp
        rw [hf c (by simpa using hz)] at h2
        simp at hlen; omega
    · rw [List.filter_append, List.length_append] at h1
      cases a with
      | nil => simp at hlen
      | cons x a =>
        have h2 : (a.filter fun s => decide (s ≠ 0)).length ≤ ((x :: a).filter fun s => decide (s ≠ 0)).length := by
          rw [List.filter_cons]; split <;> simp
        rw [hf a (by simpa using hz)] at h2
        simp at hlen; omega
  | succ f ih =>
    intro c hc hl htw hz h
    unfold blkQ at h
    by_cases hb : BlockedQ I c
    · rw [if_pos hb] at h; exact absurd h hc.ne
    · rw [if_neg hb] at h
      by_cases h0 : c.getLast?.getD 0 = 0
      · refine ⟨[], ?_, by simpa using hb⟩
        rw [h0]; exact .home
      · rw [if_neg h0] at h
        have hcz : ∀ s ∈ c.tail, s ≠ 0 := by
          rcases hz with hz | ⟨a, rfl, _⟩
          · exact hz
          · rw [last_snoc] at h0; exact absurd rfl h0
        have hc' := hc.snoc ht h0
        by_cases hb' : twiceQ (c ++ [bh (c.getLast?.getD 0)])
        · -- it is blocked there
          cases f with
          | zero =>
            exfalso
            -- nine sites, all apart
            have hnd : (c.filter fun s => decide (s ≠ 0)).Nodup := by
              apply Classical.byContradiction
              intro hno
              exact hb ⟨.inl hno⟩
            have h1 := nodup_sub _ ((List.range I.n).map (· + 1)) hnd fun s hs => by
              obtain ⟨h1, h2⟩ := List.mem_filter.1 hs
              have h3 := hc.rng s h1
              have h4 : s ≠ 0 := by simpa using h2
              exact List.mem_map.2 ⟨s - 1, by simp; omega, by omega⟩
            rw [List.length_map, List.length_range] at h1
            cases c with
            | nil => exact hc.ne rfl
            | cons x c =>
              have h2 : (c.filter fun s => decide (s ≠ 0)).length ≤ ((x :: c).filter fun s => decide (s ≠ 0)).length := by
                rw [List.filter_cons]; split <;> simp
              rw [filter_all (by simpa using hcz)] at h2
              simp at hl; omega
          | succ f =>
            unfold blkQ at h
            rw [if_pos ⟨.inl hb'⟩] at h
            simp at h
        · obtain ⟨d, h1, h2⟩ := ih _ hc' (by simp; omega) (fun _ => hb') (by
            by_cases e : bh (c.getLast?.getD 0) = 0
            · right
              exact ⟨c, by rw [e], hcz⟩
            · left
              cases c with
              | nil => exact absurd rfl hc.ne
              | cons x c =>
                intro s hs
                simp only [List.cons_append, List.tail_cons] at hs hcz
                rcases List.mem_append.1 hs with k | k
                · exact hcz s k
                · simp only [List.mem_singleton] at k; rw [k]; exact e) h
          rw [last_snoc] at h1
          exact ⟨_, .next h0 h1, by simpa using h2⟩
/- counting the stops of the routes -/
theorem count_map_one {bh : Nat → Nat} {s p : Nat} : ∀ (L : List Nat), (∀ q ∈ L, bh q = s → q = p) → bh p = s → (L.map bh).count s = L.count p := by
  intro L
  induction L with
  | nil => intro _ _; rfl
  | cons q L ih =>
    intro h hp
    rw [List.map_cons, List.count_cons, List.count_cons, ih (fun x hx => h x (by simp [hx])) hp]
    by_cases e : q = p
    · rw [e]; simp [hp]
    · have : bh q ≠ s := fun h' => e (h q (by simp) h')
      simp [e, this]
theorem count_map_none {bh : Nat → Nat} {s : Nat} (L : List Nat) (h : ∀ q ∈ L, bh q ≠ s) : (L.map bh).count s = 0 := by
  rw [List.count_eq_zero]
  intro hm
  obtain ⟨q, hq, e⟩ := List.mem_map.1 hm
  exact h q hq e
theorem nodup_count {L : List Nat} (h : ∀ s ∈ L, L.count s = 1) : L.Nodup := by
  induction L with
  | nil => exact List.nodup_nil
  | cons x L ih =>
    have hx := h x (by simp)
    rw [List.count_cons_self] at hx
    have hnot : x ∉ L := List.count_eq_zero.1 (by omega)
    refine List.nodup_cons.2 ⟨hnot, ih fun s hs => ?_⟩
    have := h s (by simp [hs])
    rw [List.count_cons] at this
    have hne : ¬ x = s := fun e => hnot (e ▸ hs)
    simp [hne] at this
    exact this
theorem begin_stop {I : Ins} (bh : Nat → Nat) (fs : List Nat) {s : Nat} (h : s ≤ I.n) : ChainOk I bh fs [s] := by
  refine ⟨by simp, by simpa using h, fun p hp => absurd hp (by simp [nbr]), fun u v e => ?_⟩
  cases u with
  | nil => exact .inl rfl
  | cons x u => simp at e
theorem begin_van {I : Ins} (bh : Nat → Nat) {fs : List Nat} {f : Nat} (hf : f ∈ fs) (h : 1 ≤ f ∧ f ≤ I.n) : ChainOk I bh fs [0, f] := by
  refine ⟨by simp, fun s hs => ?_, fun p hp => ?_, fun u v e => ?_⟩
  · simp only [List.mem_cons, List.not_mem_nil, or_false] at hs; omega
  · have : p = (0, f) := by simpa [nbr] using hp
    rw [this]; exact .inr ⟨rfl, hf⟩
  · cases u with
    | nil => exact .inl rfl
    | cons x u =>
      cases u with
      | nil => simp only [List.cons_append, List.nil_append, List.cons.injEq] at e; omega
      | cons y u => simp at e
theorem tour_plan {I : Ins} (hI : InsOk I) (hn : I.n ≤ 7) {bh : Nat → Nat} {fs : List Nat} (ht : TourQ I bh fs)
    (hs : ∀ s, 1 ≤ s → s ≤ I.n → blkQ I bh 9 [s] = []) (hf : ∀ f ∈ fs, blkQ I bh 8 [0, f] = []) : PlanQ I (fs.map (rtQ bh 7)) ∧ (∀ f ∈ fs, ∃ d, PathQ bh f d) := by
  have hpath : ∀ s, 1 ≤ s → s ≤ I.n → ∃ d, PathQ bh s d ∧ d.length ≤ 8 := fun s h1 h2 => by
    obtain ⟨d, h3, h4⟩ := blk_none (fs := fs) hn ht 9 [s] (begin_stop bh fs h2) rfl (fun h => absurd h (by omega)) (.inl fun x hx => absurd hx (by simp)) (hs s h1 h2)
    have h3' : PathQ bh s d := by simpa using h3
    refine ⟨d, h3', ?_⟩
    have hnd : (([s] ++ d).filter fun s => decide (s ≠ 0)).Nodup := Classical.byContradiction fun hno => h4 ⟨.inl hno⟩
    have hr : ∀ x d, PathQ bh x d → x ≤ I.n → ∀ y ∈ d, y ≤ I.n := by
      intro x d hp
      induction hp with
      | home => intro _ y hy; cases hy
      | @next x' d' h0 _ ih =>
        intro hx y hy
        have hb := ht.rng x' (by omega) hx
        rcases List.mem_cons.1 hy with e | e
        · rw [e]; exact hb
        · exact ih hb y e
    have hcnt := nodup_sub _ ((List.range I.n).map (· + 1)) hnd fun y hy => by
      obtain ⟨h5, h6⟩ := List.mem_filter.1 hy
      have h7 : y ≤ I.n := by
        rcases List.mem_append.1 h5 with e | e
        · simp only [List.mem_singleton] at e; omega
        · exact hr s d h3' h2 y e
      have h8 : y ≠ 0 := by simpa using h6
      exact List.mem_map.2 ⟨y - 1, by simp; omega, by omega⟩
    rw [List.length_map, List.length_range] at hcnt
    have hfil : ∀ x d, PathQ bh x d → d.length ≤ ((x :: d).filter fun s => decide (s ≠ 0)).length := by
      intro x d hp
      induction hp with
      | home => simp
      | next h0 _ ih => rw [List.filter_cons_of_pos (by simpa using h0)]; simp only [List.length_cons]; omega
    have := hfil s d h3'
    simp only [List.singleton_append] at hcnt
    omega
  have hroute : ∀ f ∈ fs, ∃ d, PathQ bh f d ∧ d.length ≤ 7 ∧ ¬ BlockedQ I (0 :: f :: d) := fun f hf' => by
    have hfr := ht.fr f hf'
    obtain ⟨d, h3, h4⟩ := blk_none (fs := fs) hn ht 8 [0, f] (begin_van bh hf' hfr) rfl (fun h => absurd h (by omega)) (.inl fun x hx => by simp only [List.tail_cons, List.mem_singleton] at hx; omega) (hf f hf')
    have h3' : PathQ bh f d := by simpa using h3
    refine ⟨d, h3', ?_, by simpa using h4⟩
    have hnd : ((0 :: f :: d).filter fun s => decide (s ≠ 0)).Nodup := Classical.byContradiction fun hno => h4 ⟨.inl hno⟩
    have hr : ∀ x d, PathQ bh x d → x ≤ I.n → ∀ y ∈ d, y ≤ I.n := by
      intro x d hp
      induction hp with
      | home => intro _ y hy; cases hy
      | @next x' d' h0 _ ih =>
        intro hx y hy
        have hb := ht.rng x' (by omega) hx
        rcases List.mem_cons.1 hy with e | e
        · rw [e]; exact hb
        · exact ih hb y e
    have hcnt := nodup_sub _ ((List.range I.n).map (· + 1)) hnd fun y hy => by
      obtain ⟨h5, h6⟩ := List.mem_filter.1 hy
      have h8 : y ≠ 0 := by simpa using h6
      have h7 : y ≤ I.n := by
        rcases List.mem_cons.1 h5 with e | e
        · omega
        · rcases List.mem_cons.1 e with e | e
          · omega
          · exact hr f d h3' hfr.2 y e
      exact List.mem_map.2 ⟨y - 1, by simp; omega, by omega⟩
    rw [List.length_map, List.length_range] at hcnt
    have hfil : ∀ x d, PathQ bh x d → d.length ≤ ((x :: d).filter fun s => decide (s ≠ 0)).length := by
      intro x d hp
      induction hp with
      | home => simp
      | next h0 _ ih => rw [List.filter_cons_of_pos (by simpa using h0)]; simp only [List.length_cons]; omega
    have h9 := hfil f d h3'
    rw [List.filter_cons_of_neg (by simp)] at hcnt
    omega
  have hsnoc : ∀ f ∈ fs, 0 :: (rtQ bh 7 f ++ [0]) = 0 :: f :: (rtQ bh 7 f).map bh := fun f hf' => by
    obtain ⟨d, h1, h2, _⟩ := hroute f hf'
    obtain ⟨h3, h4⟩ := rtQ_path h1 7 h2
    rw [← h3, h4]
  have hfree : ∀ f ∈ fs, ¬ BlockedQ I (0 :: (rtQ bh 7 f ++ [0])) := fun f hf' => by
    obtain ⟨d, h1, h2, h3⟩ := hroute f hf'
    obtain ⟨h4, _⟩ := rtQ_path h1 7 h2
    rw [← h4]; exact h3
  have hmem : ∀ (k x : Nat), x ≤ I.n → ∀ y ∈ rtQ bh k x, 1 ≤ y ∧ y ≤ I.n := by
    intro k
    induction k with
    | zero => intro x _ y hy; cases hy
    | succ k ih =>
      intro x hx y hy
      unfold rtQ at hy
      by_cases h0 : x = 0
      · rw [if_pos h0] at hy; cases hy
      · rw [if_neg h0] at hy
        rcases List.mem_cons.1 hy with e | e
        · omega
        · exact ih (bh x) (ht.rng x (by omega) hx) y e
  have hstops : ∀ s ∈ (fs.map (rtQ bh 7)).flatten, 1 ≤ s ∧ s ≤ I.n := fun s hs' => by
    obtain ⟨ρ, hρ, h1⟩ := List.mem_flatten.1 hs'
    obtain ⟨f, hf', rfl⟩ := List.mem_map.1 hρ
    exact hmem 7 f (ht.fr f hf').2 s h1
  have hcnt : ∀ s, s ≠ 0 → (fs.map (rtQ bh 7)).flatten.count s = fs.count s + ((fs.map (rtQ bh 7)).flatten.map bh).count s := by
    intro s hs0
    have key : ∀ L : List Nat, (∀ f ∈ L, f ∈ fs) → (L.map (rtQ bh 7)).flatten.count s = L.count s + ((L.map (rtQ bh 7)).flatten.map bh).count s := by
      intro L
      induction L with
      | nil => intro _; rfl
      | cons f L ih =>
        intro h
        have h1 := ih fun x hx => h x (by simp [hx])
        have h2 := hsnoc f (h f (by simp))
        have h3 := congrArg (List.count s) h2
        rw [List.count_cons, List.count_cons, List.count_cons, List.count_append] at h3
        have e0 : List.count s [0] = 0 := by rw [List.count_eq_zero]; simp; omega
        rw [List.map_cons, List.flatten_cons, List.count_append, List.map_append, List.count_append, h1, List.count_cons]
        omega
    exact key fs fun f h => h
  have hone : ∀ (k s : Nat), 1 ≤ s → s ≤ I.n → (∀ d, PathQ bh s d → d.length + k ≥ 9) → (fs.map (rtQ bh 7)).flatten.count s = 1 := by
    intro k
    induction k with
    | zero =>
      intro s h1 h2 h3
      obtain ⟨d, h4, h5⟩ := hpath s h1 h2
      have := h3 d h4
      omega
    | succ k ih =>
      intro s h1 h2 h3
      rw [hcnt s (by omega)]
      rcases ht.all s h1 h2 with hm | ⟨p, hp1, hp2, hp3⟩
      · have e1 : fs.count s = 1 := by
          have := List.Nodup.count ht.fnd (a := s)
          rw [if_pos hm] at this; exact this
        have e2 : ((fs.map (rtQ bh 7)).flatten.map bh).count s = 0 := count_map_none _ fun q hq e => by
          have := hstops q hq
          exact ht.sep q this.1 this.2 (by rw [e]; exact hm)
        omega
      · have hns : s ∉ fs := fun hm => ht.sep p hp1 hp2 (by rw [hp3]; exact hm)
        have e1 : fs.count s = 0 := List.count_eq_zero.2 hns
        have e2 : ((fs.map (rtQ bh 7)).flatten.map bh).count s = (fs.map (rtQ bh 7)).flatten.count p := count_map_one _ (fun q hq e => by
          have := hstops q hq
          exact ht.inj q p this.1 this.2 hp1 hp2 (by rw [e, hp3]) (by rw [e]; omega)) hp3
        have e3 := ih p hp1 hp2 (fun d hd => by
          cases hd with
          | home => omega
          | next h0 hd' =>
            rw [hp3] at hd'
            have := h3 _ hd'
            simp only [List.length_cons]; omega)
        omega
  have hcount1 : ∀ s, 1 ≤ s → s ≤ I.n → (fs.map (rtQ bh 7)).flatten.count s = 1 := fun s h1 h2 => hone 9 s h1 h2 fun d _ => by omega
  refine ⟨⟨by simpa using ht.few, fun ρ hρ => ?_, hstops, nodup_count fun s hs' => ?_, fun s h1 h2 => ?_, fun ρ hρ => ?_, fun p hp => ?_, fun ρ hρ => ?_⟩, fun f hf' => ?_⟩
  · obtain ⟨f, hf', rfl⟩ := List.mem_map.1 hρ
    have := ht.fr f hf'
    unfold rtQ
    rw [if_neg (by omega)]; simp
  · have := hstops s hs'; exact hcount1 s this.1 this.2
  · exact List.count_pos_iff.1 (by rw [hcount1 s h1 h2]; omega)
  · obtain ⟨f, hf', rfl⟩ := List.mem_map.1 hρ
    apply Classical.byContradiction
    intro hno
    refine hfree f hf' ⟨.inr (.inl ?_)⟩
    have e : 0 :: (rtQ bh 7 f ++ [0]) = [0] ++ rtQ bh 7 f ++ [0] := by simp
    rw [e, sumW_app, sumW_app]
    simp only [sumW, List.map_cons, List.map_nil, List.sum_cons, List.sum_nil, if_true] at hno ⊢
    omega
  · obtain ⟨L, hL, hp'⟩ := List.mem_flatten.1 hp
    obtain ⟨ρ, hρ, rfl⟩ := List.mem_map.1 hL
    obtain ⟨f, hf', rfl⟩ := List.mem_map.1 hρ
    intro e
    exact hfree f hf' ⟨.inr (.inr (.inl ⟨p, by rw [← arcs_nbr]; exact hp', e⟩))⟩
  · obtain ⟨f, hf', rfl⟩ := List.mem_map.1 hρ
    apply Classical.byContradiction
    intro hno
    refine hfree f hf' ⟨.inr (.inr (.inr ?_))⟩
    have e : arrQ I 0 0 = some 0 := by unfold arrQ; rw [if_pos rfl, if_pos hI.close]
    show (match arrQ I 0 0 with | none => false | some t => runQ I t 0 (rtQ bh 7 f ++ [0])) = false
    rw [e]
    simpa using hno
  · obtain ⟨d, h1, _⟩ := hroute f hf'
    exact ⟨d, h1⟩
end Go.Proofs.Ytebinaopncclgaa
