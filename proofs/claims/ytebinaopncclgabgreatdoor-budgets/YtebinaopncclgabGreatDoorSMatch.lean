/- Plain: what a match of the cells tells of arcs; its tour, its cost; how many branches there can be. No program in sight. -/
import Derived.Test.YtebinaopncclgabGreatDoorQCell
namespace Go.Proofs.YtebinaopncclgabGreatDoor

theorem tight_pick {N : Nat} {C : Nat → Nat → Int} {col u v : Nat → Int} {cost : Int} (ht : Tight N C col u v cost) : Pick N ((List.range N).map fun i => (i, (col i).toNat)) ∧ (∀ p ∈ (List.range N).map fun i => (i, (col i).toNat), C p.1 p.2 ≠ -1) ∧ (((List.range N).map fun i => (i, (col i).toNat)).map fun p => C p.1 p.2).sum = cost := by
  have hc : ∀ i, i < N → (col i).toNat < N ∧ C i (col i).toNat ≠ -1 := fun i hi => by
    obtain ⟨k, h1, h2, h3⟩ := ht.tcol i hi
    rw [h1]; exact ⟨by simpa using h2, by simpa using h3⟩
  refine ⟨⟨?_, fun p hp => ?_, by simp, ?_⟩, fun p hp => ?_, ?_⟩
  · rw [List.map_map]
    have : (List.range N).map ((fun p : Nat × Nat => p.1) ∘ fun i => (i, (col i).toNat)) = List.range N := by
      have : (List.range N).map ((fun p : Nat × Nat => p.1) ∘ fun i => (i, (col i).toNat)) = (List.range N).map id := List.map_congr_left fun _ _ => rfl
      rw [this, List.map_id]
    rw [this]; exact List.nodup_range
  · obtain ⟨i, hi, rfl⟩ := List.mem_map.1 hp
    have hi' : i < N := by simpa using hi
    exact ⟨hi', (hc i hi').1⟩
  · rw [List.map_map]
    refine nodup_map_on List.nodup_range fun a ha b hb e => ?_
    have ha' : a < N := by simpa using ha
    have hb' : b < N := by simpa using hb
    obtain ⟨k, h1, _⟩ := ht.tcol a ha'
    obtain ⟨m, h2, _⟩ := ht.tcol b hb'
    refine ht.one a b ha' hb' ?_
    simp only [Function.comp] at e
    omega
  · obtain ⟨i, hi, rfl⟩ := List.mem_map.1 hp
    exact (hc i (by simpa using hi)).2
  · rw [ht.tcost, List.map_map]
    have : ∀ L : List Nat, (L.map ((fun p : Nat × Nat => C p.1 p.2) ∘ fun i => (i, (col i).toNat))).sum = sumL (fun i => C i (col i).toNat) L := by
      intro L
      induction L with
      | nil => rfl
      | cons x L ih => simp only [List.map_cons, List.sum_cons, sumL, ih]; rfl
    exact this _
end Go.Proofs.YtebinaopncclgabGreatDoor
namespace Go.Proofs.YtebinaopncclgabGreatDoor

structure TourQ (I : Ins) (bh : Nat → Nat) (fs : List Nat) : Prop where
  rng : ∀ s, 1 ≤ s → s ≤ I.n → bh s ≤ I.n
  fr : ∀ f ∈ fs, 1 ≤ f ∧ f ≤ I.n
  few : fs.length ≤ I.vans
  fnd : fs.Nodup
  inj : ∀ s t, 1 ≤ s → s ≤ I.n → 1 ≤ t → t ≤ I.n → bh s = bh t → bh s ≠ 0 → s = t
  sep : ∀ s, 1 ≤ s → s ≤ I.n → bh s ∉ fs
  all : ∀ b, 1 ≤ b → b ≤ I.n → b ∈ fs ∨ ∃ s, 1 ≤ s ∧ s ≤ I.n ∧ bh s = b
/- from a site on to the depot -/
inductive PathQ (bh : Nat → Nat) : Nat → List Nat → Prop
  | home : PathQ bh 0 []
  | next {x : Nat} {d : List Nat} : x ≠ 0 → PathQ bh (bh x) d → PathQ bh x (bh x :: d)
theorem PathQ.one {bh : Nat → Nat} {x : Nat} {d : List Nat} (h : PathQ bh x d) : ∀ {e : List Nat}, PathQ bh x e → d = e := by
  induction h with
  | home => intro e he; cases he with
    | home => rfl
    | next h0 _ => exact absurd rfl h0
  | next h0 _ ih => intro e he; cases he with
    | home => exact absurd rfl h0
    | next _ h2 => rw [ih h2]
def rtQ (bh : Nat → Nat) : Nat → Nat → List Nat
  | 0, _ => []
  | f + 1, s => if s = 0 then [] else s :: rtQ bh f (bh s)
theorem rtQ_path {bh : Nat → Nat} {x : Nat} {d : List Nat} (h : PathQ bh x d) : ∀ f, d.length ≤ f → x :: d = rtQ bh f x ++ [0] ∧ (rtQ bh f x).map bh = d := by
  induction h with
  | home =>
    intro f _
    cases f with
    | zero => exact ⟨rfl, rfl⟩
    | succ f => unfold rtQ; rw [if_pos rfl]; exact ⟨rfl, rfl⟩
  | next h0 _ ih =>
    intro f hf
    cases f with
    | zero => simp at hf
    | succ f =>
      obtain ⟨h1, h2⟩ := ih f (by simpa using hf)
      unfold rtQ
      rw [if_neg h0]
      exact ⟨by rw [List.cons_append, ← h1], by rw [List.map_cons, h2]⟩
/- a chain goes on along the tour until it is blocked or at home -/
open Classical in
noncomputable def blkQ (I : Ins) (bh : Nat → Nat) : Nat → List Nat → List Nat
  | 0, _ => []
  | f + 1, c => if BlockedQ I c then c else if c.getLast?.getD 0 = 0 then [] else blkQ I bh f (c ++ [bh (c.getLast?.getD 0)])
theorem last_snoc (c : List Nat) (x : Nat) : (c ++ [x]).getLast?.getD 0 = x := by simp
/- along the tour -/
def OnTour (bh : Nat → Nat) (fs : List Nat) (c : List Nat) : Prop := ∀ p ∈ nbr c, (p.1 ≠ 0 ∧ p.2 = bh p.1) ∨ (p.1 = 0 ∧ p.2 ∈ fs)
theorem nbr_snoc (c : List Nat) (x : Nat) (h : c ≠ []) : nbr (c ++ [x]) = nbr c ++ [(c.getLast?.getD 0, x)] := by
  obtain ⟨a, y, rfl⟩ : ∃ a y, c = a ++ [y] := ⟨c.dropLast, c.getLast h, (List.dropLast_concat_getLast h).symm⟩
  rw [last_snoc, List.append_assoc]
  show nbr (a ++ y :: [x]) = _
  rw [nbr_app]; rfl
structure ChainOk (I : Ins) (bh : Nat → Nat) (fs : List Nat) (c : List Nat) : Prop where
  ne : c ≠ []
  rng : ∀ s ∈ c, s ≤ I.n
  on : OnTour bh fs c
  ends : ∀ u v, c = u ++ 0 :: v → u = [] ∨ v = []
theorem ChainOk.snoc {I : Ins} {bh : Nat → Nat} {fs : List Nat} {c : List Nat} (ht : TourQ I bh fs) (h : ChainOk I bh fs c) (h0 : c.getLast?.getD 0 ≠ 0) : ChainOk I bh fs (c ++ [bh (c.getLast?.getD 0)]) := by
  have hl : c.getLast?.getD 0 ∈ c := by
    obtain ⟨a, y, rfl⟩ : ∃ a y, c = a ++ [y] := ⟨c.dropLast, c.getLast h.ne, (List.dropLast_concat_getLast h.ne).symm⟩
    rw [last_snoc]; simp
  refine ⟨by simp, fun s hs => ?_, fun p hp => ?_, fun u v e => ?_⟩
  · rcases List.mem_append.1 hs with e | e
    · exact h.rng s e
    · simp only [List.mem_singleton] at e
      rw [e]; exact ht.rng _ (by omega) (h.rng _ hl)
  · rw [nbr_snoc c _ h.ne] at hp
    rcases List.mem_append.1 hp with e | e
    · exact h.on p e
    · simp only [List.mem_singleton] at e
      rw [e]; exact .inl ⟨h0, rfl⟩
  · by_cases hv : v = []
    · exact .inr hv
    · left
      obtain ⟨v', y, rfl⟩ : ∃ v' y, v = v' ++ [y] := ⟨v.dropLast, v.getLast hv, (List.dropLast_concat_getLast hv).symm⟩
      have e2 : c ++ [bh (c.getLast?.getD 0)] = (u ++ 0 :: v') ++ [y] := by rw [e]; simp
      have e3 := (List.append_inj' e2 rfl).1
      rcases h.ends u v' e3 with h1 | h1
      · exact h1
      · subst h1
        rw [e3, last_snoc] at h0
        exact absurd rfl h0
theorem blk_some {I : Ins} {bh : Nat → Nat} {fs : List Nat} (ht : TourQ I bh fs) : ∀ (f : Nat) (c : List Nat), ChainOk I bh fs c → c.length + f = 10 → blkQ I bh f c ≠ [] → ChainOk I bh fs (blkQ I bh f c) ∧ BlockedQ I (blkQ I bh f c) ∧ (blkQ I bh f c).length ≤ 9 := by
  intro f
  induction f with
  | zero => intro c _ _ h; exact absurd rfl h
  | succ f ih =>
    intro c hc hl h
    unfold blkQ at h ⊢
    by_cases hb : BlockedQ I c
    · rw [if_pos hb]; exact ⟨hc, hb, by omega⟩
    · rw [if_neg hb] at h ⊢
      by_cases h0 : c.getLast?.getD 0 = 0
      · rw [if_pos h0] at h; exact absurd rfl h
      · rw [if_neg h0] at h ⊢
        exact ih _ (hc.snoc ht h0) (by simp; omega) h
theorem blk_none {I : Ins} {bh : Nat → Nat} {fs : List Nat} (hn : I.n ≤ 7) (ht : TourQ I bh fs) : ∀ (f : Nat) (c : List Nat), ChainOk I bh fs c → c.length + f = 10 → (f = 0 → ¬ twiceQ c) → (∀ s ∈ c.tail, s ≠ 0) ∨ (∃ a, c = a ++ [0] ∧ (∀ s ∈ a.tail, s ≠ 0)) → blkQ I bh f c = [] → ∃ d, PathQ bh (c.getLast?.getD 0) d ∧ ¬ BlockedQ I (c ++ d) := by
  intro f
  induction f with
  | zero =>
    intro c hc hl htw hz _
    exfalso
    have hlen : c.length = 10 := by omega
    have hnd := Classical.not_not.1 (htw rfl)
    have h1 := nodup_sub _ ((List.range I.n).map (· + 1)) hnd fun s hs => by
      obtain ⟨h1, h2⟩ := List.mem_filter.1 hs
      have h3 := hc.rng s h1
      have h4 : s ≠ 0 := by simpa using h2
      exact List.mem_map.2 ⟨s - 1, by simp; omega, by omega⟩
    rw [List.length_map, List.length_range] at h1
    have hf : ∀ (l : List Nat), (∀ s ∈ l, s ≠ 0) → (l.filter fun s => decide (s ≠ 0)) = l := fun l h => filter_all h
    rcases hz with hz | ⟨a, rfl, hz⟩
    · cases c with
      | nil => simp at hlen
      | cons x c =>
        have h2 : (c.filter fun s => decide (s ≠ 0)).length ≤ ((x :: c).filter fun s => decide (s ≠ 0)).length := by
          rw [List.filter_cons]; split <;> simp
        rw [hf c (by simpa using hz)] at h2
        simp at hlen; omega
    · rw [List.filter_append, List.length_append] at h1
      cases a with
      | nil => simp at hlen
      | cons x a =>
        have h2 : (a.filter fun s => decide (s ≠ 0)).length ≤ ((x :: a).filter fun s => decide (s ≠ 0)).length := by
          rw [List.filter_cons]; split <;> simp
        rw [hf a (by simpa using hz)] at h2
        simp at hlen; omega
  | succ f ih =>
    intro c hc hl htw hz h
    unfold blkQ at h
    by_cases hb : BlockedQ I c
    · rw [if_pos hb] at h; exact absurd h hc.ne
    · rw [if_neg hb] at h
      by_cases h0 : c.getLast?.getD 0 = 0
      · refine ⟨[], ?_, by simpa using hb⟩
        rw [h0]; exact .home
      · rw [if_neg h0] at h
        have hcz : ∀ s ∈ c.tail, s ≠ 0 := by
          rcases hz with hz | ⟨a, rfl, _⟩
          · exact hz
          · rw [last_snoc] at h0; exact absurd rfl h0
        have hc' := hc.snoc ht h0
        by_cases hb' : twiceQ (c ++ [bh (c.getLast?.getD 0)])
        · -- it is blocked there
          cases f with
          | zero =>
            exfalso
            -- nine sites, all apart
            have hnd : (c.filter fun s => decide (s ≠ 0)).Nodup := by
              apply Classical.byContradiction
              intro hno
              exact hb ⟨.inl hno⟩
            have h1 := nodup_sub _ ((List.range I.n).map (· + 1)) hnd fun s hs => by
              obtain ⟨h1, h2⟩ := List.mem_filter.1 hs
              have h3 := hc.rng s h1
              have h4 : s ≠ 0 := by simpa using h2
              exact List.mem_map.2 ⟨s - 1, by simp; omega, by omega⟩
            rw [List.length_map, List.length_range] at h1
            cases c with
            | nil => exact hc.ne rfl
            | cons x c =>
              have h2 : (c.filter fun s => decide (s ≠ 0)).length ≤ ((x :: c).filter fun s => decide (s ≠ 0)).length := by
                rw [List.filter_cons]; split <;> simp
              rw [filter_all (by simpa using hcz)] at h2
              simp at hl; omega
          | succ f =>
            unfold blkQ at h
            rw [if_pos ⟨.inl hb'⟩] at h
            simp at h
        · obtain ⟨d, h1, h2⟩ := ih _ hc' (by simp; omega) (fun _ => hb') (by
            by_cases e : bh (c.getLast?.getD 0) = 0
            · right
              exact ⟨c, by rw [e], hcz⟩
            · left
              cases c with
              | nil => exact absurd rfl hc.ne
              | cons x c =>
                intro s hs
                simp only [List.cons_append, List.tail_cons] at hs hcz
                rcases List.mem_append.1 hs with k | k
                · exact hcz s k
                · simp only [List.mem_singleton] at k; rw [k]; exact e) h
          rw [last_snoc] at h1
          exact ⟨_, .next h0 h1, by simpa using h2⟩
/- counting the stops of the routes -/
theorem count_map_one {bh : Nat → Nat} {s p : Nat} : ∀ (L : List Nat), (∀ q ∈ L, bh q = s → q = p) → bh p = s → (L.map bh).count s = L.count p := by
  intro L
  induction L with
  | nil => intro _ _; rfl
  | cons q L ih =>
    intro h hp
    rw [List.map_cons, List.count_cons, List.count_cons, ih (fun x hx => h x (by simp [hx])) hp]
    by_cases e : q = p
    · rw [e]; simp [hp]
    · have : bh q ≠ s := fun h' => e (h q (by simp) h')
      simp [e, this]
theorem count_map_none {bh : Nat → Nat} {s : Nat} (L : List Nat) (h : ∀ q ∈ L, bh q ≠ s) : (L.map bh).count s = 0 := by
  rw [List.count_eq_zero]
  intro hm
  obtain ⟨q, hq, e⟩ := List.mem_map.1 hm
  exact h q hq e
theorem nodup_count {L : List Nat} (h : ∀ s ∈ L, L.count s = 1) : L.Nodup := by
  induction L with
  | nil => exact List.nodup_nil
  | cons x L ih =>
    have hx := h x (by simp)
    rw [List.count_cons_self] at hx
    have hnot : x ∉ L := List.count_eq_zero.1 (by omega)
    refine List.nodup_cons.2 ⟨hnot, ih fun s hs => ?_⟩
    have := h s (by simp [hs])
    rw [List.count_cons] at this
    have hne : ¬ x = s := fun e => hnot (e ▸ hs)
    simp [hne] at this
    exact this
theorem begin_stop {I : Ins} (bh : Nat → Nat) (fs : List Nat) {s : Nat} (h : s ≤ I.n) : ChainOk I bh fs [s] := by
  refine ⟨by simp, by simpa using h, fun p hp => absurd hp (by simp [nbr]), fun u v e => ?_⟩
  cases u with
  | nil => exact .inl rfl
  | cons x u => simp at e
theorem begin_van {I : Ins} (bh : Nat → Nat) {fs : List Nat} {f : Nat} (hf : f ∈ fs) (h : 1 ≤ f ∧ f ≤ I.n) : ChainOk I bh fs [0, f] := by
  refine ⟨by simp, fun s hs => ?_, fun p hp => ?_, fun u v e => ?_⟩
  · simp only [List.mem_cons, List.not_mem_nil, or_false] at hs; omega
  · have : p = (0, f) := by simpa [nbr] using hp
    rw [this]; exact .inr ⟨rfl, hf⟩
  · cases u with
    | nil => exact .inl rfl
    | cons x u =>
      cases u with
      | nil => simp only [List.cons_append, List.nil_append, List.cons.injEq] at e; omega
      | cons y u => simp at e
theorem tour_plan {I : Ins} (hI : InsOk I) (hn : I.n ≤ 7) {bh : Nat → Nat} {fs : List Nat} (ht : TourQ I bh fs)
    (hs : ∀ s, 1 ≤ s → s ≤ I.n → blkQ I bh 9 [s] = []) (hf : ∀ f ∈ fs, blkQ I bh 8 [0, f] = []) : PlanQ I (fs.map (rtQ bh 7)) ∧ (∀ f ∈ fs, ∃ d, PathQ bh f d) := by
  have hpath : ∀ s, 1 ≤ s → s ≤ I.n → ∃ d, PathQ bh s d ∧ d.length ≤ 8 := fun s h1 h2 => by
    obtain ⟨d, h3, h4⟩ := blk_none (fs := fs) hn ht 9 [s] (begin_stop bh fs h2) rfl (fun h => absurd h (by omega)) (.inl fun x hx => absurd hx (by simp)) (hs s h1 h2)
    have h3' : PathQ bh s d := by simpa using h3
    refine ⟨d, h3', ?_⟩
    have hnd : (([s] ++ d).filter fun s => decide (s ≠ 0)).Nodup := Classical.byContradiction fun hno => h4 ⟨.inl hno⟩
    have hr : ∀ x d, PathQ bh x d → x ≤ I.n → ∀ y ∈ d, y ≤ I.n := by
      intro x d hp
      induction hp with
      | home => intro _ y hy; cases hy
      | @next x' d' h0 _ ih =>
        intro hx y hy
        have hb := ht.rng x' (by omega) hx
        rcases List.mem_cons.1 hy with e | e
        · rw [e]; exact hb
        · exact ih hb y e
    have hcnt := nodup_sub _ ((List.range I.n).map (· + 1)) hnd fun y hy => by
      obtain ⟨h5, h6⟩ := List.mem_filter.1 hy
      have h7 : y ≤ I.n := by
        rcases List.mem_append.1 h5 with e | e
        · simp only [List.mem_singleton] at e; omega
        · exact hr s d h3' h2 y e
      have h8 : y ≠ 0 := by simpa using h6
      exact List.mem_map.2 ⟨y - 1, by simp; omega, by omega⟩
    rw [List.length_map, List.length_range] at hcnt
    have hfil : ∀ x d, PathQ bh x d → d.length ≤ ((x :: d).filter fun s => decide (s ≠ 0)).length := by
      intro x d hp
      induction hp with
      | home => simp
      | next h0 _ ih => rw [List.filter_cons_of_pos (by simpa using h0)]; simp only [List.length_cons]; omega
    have := hfil s d h3'
    simp only [List.singleton_append] at hcnt
    omega
  have hroute : ∀ f ∈ fs, ∃ d, PathQ bh f d ∧ d.length ≤ 7 ∧ ¬ BlockedQ I (0 :: f :: d) := fun f hf' => by
    have hfr := ht.fr f hf'
    obtain ⟨d, h3, h4⟩ := blk_none (fs := fs) hn ht 8 [0, f] (begin_van bh hf' hfr) rfl (fun h => absurd h (by omega)) (.inl fun x hx => by simp only [List.tail_cons, List.mem_singleton] at hx; omega) (hf f hf')
    have h3' : PathQ bh f d := by simpa using h3
    refine ⟨d, h3', ?_, by simpa using h4⟩
    have hnd : ((0 :: f :: d).filter fun s => decide (s ≠ 0)).Nodup := Classical.byContradiction fun hno => h4 ⟨.inl hno⟩
    have hr : ∀ x d, PathQ bh x d → x ≤ I.n → ∀ y ∈ d, y ≤ I.n := by
      intro x d hp
      induction hp with
      | home => intro _ y hy; cases hy
      | @next x' d' h0 _ ih =>
        intro hx y hy
        have hb := ht.rng x' (by omega) hx
        rcases List.mem_cons.1 hy with e | e
        · rw [e]; exact hb
        · exact ih hb y e
    have hcnt := nodup_sub _ ((List.range I.n).map (· + 1)) hnd fun y hy => by
      obtain ⟨h5, h6⟩ := List.mem_filter.1 hy
      have h8 : y ≠ 0 := by simpa using h6
      have h7 : y ≤ I.n := by
        rcases List.mem_cons.1 h5 with e | e
        · omega
        · rcases List.mem_cons.1 e with e | e
          · omega
          · exact hr f d h3' hfr.2 y e
      exact List.mem_map.2 ⟨y - 1, by simp; omega, by omega⟩
    rw [List.length_map, List.length_range] at hcnt
    have hfil : ∀ x d, PathQ bh x d → d.length ≤ ((x :: d).filter fun s => decide (s ≠ 0)).length := by
      intro x d hp
      induction hp with
      | home => simp
      | next h0 _ ih => rw [List.filter_cons_of_pos (by simpa using h0)]; simp only [List.length_cons]; omega
    have h9 := hfil f d h3'
    rw [List.filter_cons_of_neg (by simp)] at hcnt
    omega
  have hsnoc : ∀ f ∈ fs, 0 :: (rtQ bh 7 f ++ [0]) = 0 :: f :: (rtQ bh 7 f).map bh := fun f hf' => by
    obtain ⟨d, h1, h2, _⟩ := hroute f hf'
    obtain ⟨h3, h4⟩ := rtQ_path h1 7 h2
    rw [← h3, h4]
  have hfree : ∀ f ∈ fs, ¬ BlockedQ I (0 :: (rtQ bh 7 f ++ [0])) := fun f hf' => by
    obtain ⟨d, h1, h2, h3⟩ := hroute f hf'
    obtain ⟨h4, _⟩ := rtQ_path h1 7 h2
    rw [← h4]; exact h3
  have hmem : ∀ (k x : Nat), x ≤ I.n → ∀ y ∈ rtQ bh k x, 1 ≤ y ∧ y ≤ I.n := by
    intro k
    induction k with
    | zero => intro x _ y hy; cases hy
    | succ k ih =>
      intro x hx y hy
      unfold rtQ at hy
      by_cases h0 : x = 0
      · rw [if_pos h0] at hy; cases hy
      · rw [if_neg h0] at hy
        rcases List.mem_cons.1 hy with e | e
        · omega
        · exact ih (bh x) (ht.rng x (by omega) hx) y e
  have hstops : ∀ s ∈ (fs.map (rtQ bh 7)).flatten, 1 ≤ s ∧ s ≤ I.n := fun s hs' => by
    obtain ⟨ρ, hρ, h1⟩ := List.mem_flatten.1 hs'
    obtain ⟨f, hf', rfl⟩ := List.mem_map.1 hρ
    exact hmem 7 f (ht.fr f hf').2 s h1
  have hcnt : ∀ s, s ≠ 0 → (fs.map (rtQ bh 7)).flatten.count s = fs.count s + ((fs.map (rtQ bh 7)).flatten.map bh).count s := by
    intro s hs0
    have key : ∀ L : List Nat, (∀ f ∈ L, f ∈ fs) → (L.map (rtQ bh 7)).flatten.count s = L.count s + ((L.map (rtQ bh 7)).flatten.map bh).count s := by
      intro L
      induction L with
      | nil => intro _; rfl
      | cons f L ih =>
        intro h
        have h1 := ih fun x hx => h x (by simp [hx])
        have h2 := hsnoc f (h f (by simp))
        have h3 := congrArg (List.count s) h2
        rw [List.count_cons, List.count_cons, List.count_cons, List.count_append] at h3
        have e0 : List.count s [0] = 0 := by rw [List.count_eq_zero]; simp; omega
        rw [List.map_cons, List.flatten_cons, List.count_append, List.map_append, List.count_append, h1, List.count_cons]
        omega
    exact key fs fun f h => h
  have hone : ∀ (k s : Nat), 1 ≤ s → s ≤ I.n → (∀ d, PathQ bh s d → d.length + k ≥ 9) → (fs.map (rtQ bh 7)).flatten.count s = 1 := by
    intro k
    induction k with
    | zero =>
      intro s h1 h2 h3
      obtain ⟨d, h4, h5⟩ := hpath s h1 h2
      have := h3 d h4
      omega
    | succ k ih =>
      intro s h1 h2 h3
      rw [hcnt s (by omega)]
      rcases ht.all s h1 h2 with hm | ⟨p, hp1, hp2, hp3⟩
      · have e1 : fs.count s = 1 := by
          have := List.Nodup.count ht.fnd (a := s)
          rw [if_pos hm] at this; exact this
        have e2 : ((fs.map (rtQ bh 7)).flatten.map bh).count s = 0 := count_map_none _ fun q hq e => by
          have := hstops q hq
          exact ht.sep q this.1 this.2 (by rw [e]; exact hm)
        omega
      · have hns : s ∉ fs := fun hm => ht.sep p hp1 hp2 (by rw [hp3]; exact hm)
        have e1 : fs.count s = 0 := List.count_eq_zero.2 hns
        have e2 : ((fs.map (rtQ bh 7)).flatten.map bh).count s = (fs.map (rtQ bh 7)).flatten.count p := count_map_one _ (fun q hq e => by
          have := hstops q hq
          exact ht.inj q p this.1 this.2 hp1 hp2 (by rw [e, hp3]) (by rw [e]; omega)) hp3
        have e3 := ih p hp1 hp2 (fun d hd => by
          cases hd with
          | home => omega
          | next h0 hd' =>
            rw [hp3] at hd'
            have := h3 _ hd'
            simp only [List.length_cons]; omega)
        omega
  have hcount1 : ∀ s, 1 ≤ s → s ≤ I.n → (fs.map (rtQ bh 7)).flatten.count s = 1 := fun s h1 h2 => hone 9 s h1 h2 fun d _ => by omega
  refine ⟨⟨by simpa using ht.few, fun ρ hρ => ?_, hstops, nodup_count fun s hs' => ?_, fun s h1 h2 => ?_, fun ρ hρ => ?_, fun p hp => ?_, fun ρ hρ => ?_⟩, fun f hf' => ?_⟩
  · obtain ⟨f, hf', rfl⟩ := List.mem_map.1 hρ
    have := ht.fr f hf'
    unfold rtQ
    rw [if_neg (by omega)]; simp
  · have := hstops s hs'; exact hcount1 s this.1 this.2
  · exact List.count_pos_iff.1 (by rw [hcount1 s h1 h2]; omega)
  · obtain ⟨f, hf', rfl⟩ := List.mem_map.1 hρ
    apply Classical.byContradiction
    intro hno
    refine hfree f hf' ⟨.inr (.inl ?_)⟩
    have e : 0 :: (rtQ bh 7 f ++ [0]) = [0] ++ rtQ bh 7 f ++ [0] := by simp
    rw [e, sumW_app, sumW_app]
    simp only [sumW, List.map_cons, List.map_nil, List.sum_cons, List.sum_nil, if_true] at hno ⊢
    omega
  · obtain ⟨L, hL, hp'⟩ := List.mem_flatten.1 hp
    obtain ⟨ρ, hρ, rfl⟩ := List.mem_map.1 hL
    obtain ⟨f, hf', rfl⟩ := List.mem_map.1 hρ
    intro e
    exact hfree f hf' ⟨.inr (.inr (.inl ⟨p, by rw [← arcs_nbr]; exact hp', e⟩))⟩
  · obtain ⟨f, hf', rfl⟩ := List.mem_map.1 hρ
    apply Classical.byContradiction
    intro hno
    refine hfree f hf' ⟨.inr (.inr (.inr ?_))⟩
    have e : arrQ I 0 0 = some 0 := by unfold arrQ; rw [if_pos rfl, if_pos hI.close]
    show (match arrQ I 0 0 with | none => false | some t => runQ I t 0 (rtQ bh 7 f ++ [0])) = false
    rw [e]
    simpa using hno
  · obtain ⟨d, h1, _⟩ := hroute f hf'
    exact ⟨d, h1⟩
end Go.Proofs.YtebinaopncclgabGreatDoor
namespace Go.Proofs.YtebinaopncclgabGreatDoor

def bhQ (n : Nat) (col : Nat → Int) (s : Nat) : Nat := lineN n (col (s - 1)).toNat
def fsQ (n vans : Nat) (col : Nat → Int) : List Nat := ((List.range vans).map fun k => lineN n (col (n + k)).toNat).filter fun s => decide (s ≠ 0)
theorem line_inj {n i j : Nat} (h : lineN n i = lineN n j) (h0 : lineN n i ≠ 0) : i = j := by
  unfold lineN at h h0
  by_cases h1 : i < n
  · rw [if_pos h1] at h
    by_cases h2 : j < n
    · rw [if_pos h2] at h; omega
    · rw [if_neg h2] at h; omega
  · rw [if_neg h1] at h0; exact absurd rfl h0
theorem cell_open {n : Nat} {T D : Nat → Nat → Int} {a b : Nat} (h : cellS n T D a b ≠ -1) : (a = 0 ∧ b = 0) ∨ (a ≠ b ∧ T a b ≠ 2 ∧ feS n T a b = false ∧ D a b ≠ -1 ∧ cellS n T D a b = D a b) := by
  unfold cellS at h ⊢
  by_cases h0 : a = 0 ∧ b = 0
  · exact .inl h0
  · right
    rw [if_neg h0] at h ⊢
    by_cases h1 : a = b ∨ T a b = 2 ∨ feS n T a b = true
    · rw [if_pos h1] at h; exact absurd rfl h
    · rw [if_neg h1] at h ⊢
      refine ⟨fun e => h1 (.inl e), fun e => h1 (.inr (.inl e)), ?_, h, rfl⟩
      cases hf : feS n T a b with
      | false => rfl
      | true => exact absurd (.inr (.inr hf)) h1
theorem tight_hit {N : Nat} {C : Nat → Nat → Int} {col u v : Nat → Int} {cost : Int} (ht : Tight N C col u v cost) {j : Nat} (hj : j < N) : ∃ i, i < N ∧ (col i).toNat = j := by
  obtain ⟨hp, _, _⟩ := tight_pick ht
  apply Classical.byContradiction
  intro hno
  have h1 := nodup_sub (j :: ((List.range N).map fun i => (i, (col i).toNat)).map (·.2)) (List.range N) (List.nodup_cons.2 ⟨fun hm => by
      obtain ⟨p, hp', e⟩ := List.mem_map.1 hm
      obtain ⟨i, hi, rfl⟩ := List.mem_map.1 hp'
      exact hno ⟨i, by simpa using hi, e⟩, hp.s1⟩) (fun x hx => by
    rcases List.mem_cons.1 hx with e | e
    · rw [e]; simpa using hj
    · obtain ⟨p, hp', rfl⟩ := List.mem_map.1 e
      simpa using (hp.f2 p hp').2)
  simp at h1
  omega
theorem tight_inj {N : Nat} {C : Nat → Nat → Int} {col u v : Nat → Int} {cost : Int} (ht : Tight N C col u v cost) {i j : Nat} (hi : i < N) (hj : j < N) (h : (col i).toNat = (col j).toNat) : i = j := by
  obtain ⟨k, h1, _⟩ := ht.tcol i hi
  obtain ⟨m, h2, _⟩ := ht.tcol j hj
  exact ht.one i j hi hj (by omega)
theorem mem_fs {n vans : Nat} {col : Nat → Int} {f : Nat} : f ∈ fsQ n vans col ↔ f ≠ 0 ∧ ∃ k, k < vans ∧ lineN n (col (n + k)).toNat = f := by
  unfold fsQ
  rw [List.mem_filter, List.mem_map]
  constructor
  · rintro ⟨⟨k, hk, e⟩, h0⟩; exact ⟨by simpa using h0, k, by simpa using hk, e⟩
  · rintro ⟨h0, k, hk, e⟩; exact ⟨⟨k, by simpa using hk, e⟩, by simpa using h0⟩
theorem tight_tour {I : Ins} {T : Nat → Nat → Int} {col u v : Nat → Int} {cost : Int} (ht : Tight (I.n + I.vans) (cellQ I T) col u v cost) : TourQ I (bhQ I.n col) (fsQ I.n I.vans col) := by
  refine ⟨fun s _ _ => by have := lineN_lt I.n (col (s - 1)).toNat; unfold bhQ; omega, fun f hf => ?_, ?_, ?_, fun s t h1 h2 h3 h4 e h0 => ?_, fun s h1 h2 hm => ?_, fun b h1 h2 => ?_⟩
  · obtain ⟨h0, k, _, rfl⟩ := mem_fs.1 hf
    have := lineN_lt I.n (col (I.n + k)).toNat
    omega
  · unfold fsQ
    refine Nat.le_trans (List.length_filter_le _ _) ?_
    simp
  · unfold fsQ
    have key : ∀ L : List Nat, L.Nodup → (∀ k ∈ L, k < I.vans) → ((L.map fun k => lineN I.n (col (I.n + k)).toNat).filter fun s => decide (s ≠ 0)).Nodup := by
      intro L
      induction L with
      | nil => intro _ _; exact List.nodup_nil
      | cons k L ih =>
        intro hn hl
        have hn' := List.nodup_cons.1 hn
        have h1 := ih hn'.2 fun x hx => hl x (by simp [hx])
        rw [List.map_cons]
        by_cases h0 : lineN I.n (col (I.n + k)).toNat = 0
        · rw [List.filter_cons_of_neg (by simpa using h0)]; exact h1
        · rw [List.filter_cons_of_pos (by simpa using h0)]
          refine List.nodup_cons.2 ⟨fun hm => ?_, h1⟩
          obtain ⟨h2, _⟩ := List.mem_filter.1 hm
          obtain ⟨k', hk', e⟩ := List.mem_map.1 h2
          have h3 := line_inj e.symm h0
          have h4 := tight_inj ht (by have := hl k (by simp); omega) (by have := hl k' (by simp [hk']); omega) h3
          have : k = k' := by omega
          exact hn'.1 (this ▸ hk')
    exact key _ List.nodup_range fun k hk => by simpa using hk
  · have := tight_inj ht (by omega) (by omega) (line_inj e h0)
    omega
  · obtain ⟨h0, k, hk, e⟩ := mem_fs.1 hm
    have := tight_inj ht (i := s - 1) (j := I.n + k) (by omega) (by omega) (line_inj e.symm h0)
    omega
  · obtain ⟨i, hi, e⟩ := tight_hit ht (j := b - 1) (by omega)
    have hb : lineN I.n (col i).toNat = b := by rw [e]; exact line_stop ⟨h1, h2⟩
    by_cases h3 : i < I.n
    · exact .inr ⟨i + 1, by omega, by omega, by unfold bhQ; simpa using hb⟩
    · left
      refine mem_fs.2 ⟨by omega, i - I.n, by omega, ?_⟩
      rw [show I.n + (i - I.n) = i by omega]; exact hb
/- an arc of the tour -/
def ArcOn (I : Ins) (col : Nat → Int) (a b : Nat) : Prop := (a ≠ 0 ∧ b = bhQ I.n col a) ∨ (a = 0 ∧ b ∈ fsQ I.n I.vans col)
theorem arc_row {I : Ins} {col : Nat → Int} {a b : Nat} (ha : a ≤ I.n) (h : ArcOn I col a b) : ∃ i, i < I.n + I.vans ∧ lineN I.n i = a ∧ lineN I.n (col i).toNat = b ∧ ¬ (a = 0 ∧ b = 0) := by
  rcases h with ⟨h0, rfl⟩ | ⟨rfl, hm⟩
  · exact ⟨a - 1, by omega, line_stop ⟨by omega, ha⟩, rfl, fun e => h0 e.1⟩
  · obtain ⟨h0, k, hk, e⟩ := mem_fs.1 hm
    exact ⟨I.n + k, by omega, line_van _ _, e, fun e => h0 e.2⟩
theorem arc_open {I : Ins} {T : Nat → Nat → Int} {col u v : Nat → Int} {cost : Int} (ht : Tight (I.n + I.vans) (cellQ I T) col u v cost) {a b : Nat} (ha : a ≤ I.n) (h : ArcOn I col a b) : a ≠ b ∧ T a b ≠ 2 ∧ b ≤ I.n ∧ I.D a b ≠ -1 := by
  obtain ⟨i, hi, h1, h2, h3⟩ := arc_row ha h
  obtain ⟨k, hk, _, ho⟩ := ht.tcol i hi
  have e : (col i).toNat = k := by rw [hk]; rfl
  rw [e] at h2
  unfold cellQ at ho
  rw [h1, h2] at ho
  rcases cell_open ho with h4 | ⟨h4, h5, _, h6, _⟩
  · exact absurd h4 h3
  · have := lineN_lt I.n k
    exact ⟨h4, h5, by omega, h6⟩
theorem forced_on {I : Ins} {T : Nat → Nat → Int} {col u v : Nat → Int} {cost : Int} (ht : Tight (I.n + I.vans) (cellQ I T) col u v cost) {a b : Nat} (ha : a ≤ I.n) (hb : b ≤ I.n) (hab : a ≠ b) (h : T a b = 1) : ArcOn I col a b := by
  have nofe : ∀ x y c, feS I.n T x y = false → c ≤ I.n → ¬ feAt T x y c := fun x y c hf hc hat => by
    have := List.any_eq_false.1 hf c (by simp; omega)
    exact this (by simpa using hat)
  by_cases h0 : a = 0
  · right
    subst h0
    obtain ⟨i, hi, e⟩ := tight_hit ht (j := b - 1) (by omega)
    have hbb : lineN I.n (col i).toNat = b := by rw [e]; exact line_stop ⟨by omega, hb⟩
    obtain ⟨k, hk, _, ho⟩ := ht.tcol i hi
    have ek : (col i).toNat = k := by rw [hk]; rfl
    unfold cellQ at ho
    rw [← ek, hbb] at ho
    by_cases h3 : i < I.n
    · exfalso
      have hl : lineN I.n i = i + 1 := by unfold lineN; rw [if_pos h3]
      rw [hl] at ho
      rcases cell_open ho with h4 | ⟨_, _, h5, _⟩
      · omega
      · exact nofe _ _ 0 h5 (by omega) (.inr ⟨by omega, by omega, h⟩)
    · refine ⟨rfl, mem_fs.2 ⟨by omega, i - I.n, by omega, ?_⟩⟩
      rw [show I.n + (i - I.n) = i by omega]; exact hbb
  · left
    refine ⟨h0, ?_⟩
    have hi : a - 1 < I.n + I.vans := by omega
    obtain ⟨k, hk, _, ho⟩ := ht.tcol (a - 1) hi
    have ek : (col (a - 1)).toNat = k := by rw [hk]; rfl
    unfold cellQ at ho
    rw [line_stop ⟨by omega, ha⟩] at ho
    show b = lineN I.n (col (a - 1)).toNat
    rw [ek]
    rcases cell_open ho with h4 | ⟨_, _, h5, _⟩
    · omega
    · apply Classical.byContradiction
      intro hne
      exact nofe _ _ b h5 hb (.inl ⟨h0, hne, h⟩)
/- what the plan of the tour costs -/
theorem sum_split (f : Nat → Int) (n m : Nat) : sumL f (List.range (n + m)) = sumL f (List.range n) + sumL (fun k => f (n + k)) (List.range m) := by
  rw [List.range_add, sumL_append, sumL_map]
theorem tour_cost {I : Ins} {T : Nat → Nat → Int} {col u v : Nat → Int} {cost : Int} (ht : Tight (I.n + I.vans) (cellQ I T) col u v cost) (hp : PlanQ I ((fsQ I.n I.vans col).map (rtQ (bhQ I.n col) 7))) (hd : ∀ f ∈ fsQ I.n I.vans col, ∃ d, PathQ (bhQ I.n col) f d ∧ d.length ≤ 7) : costQ I ((fsQ I.n I.vans col).map (rtQ (bhQ I.n col) 7)) = cost := by
  let bh := bhQ I.n col
  let fs := fsQ I.n I.vans col
  let g : Nat → Int := fun s => I.D s (bh s)
  have harc : ∀ f ∈ fs, arcsR (rtQ bh 7 f) = (0, f) :: (rtQ bh 7 f).map fun s => (s, bh s) := fun f hf => by
    obtain ⟨d, h1, h2⟩ := hd f hf
    obtain ⟨h3, h4⟩ := rtQ_path h1 7 h2
    unfold arcsR
    rw [← h3]
    show (0, f) :: (rtQ bh 7 f).zip d = _
    congr 1
    rw [← h4]
    have : ∀ L : List Nat, L.zip (L.map bh) = L.map fun s => (s, bh s) := by
      intro L; induction L with
      | nil => rfl
      | cons x L ih => rw [List.map_cons, List.zip_cons_cons, ih]; rfl
    exact this _
  have h1 : ∀ L : List Nat, (∀ f ∈ L, f ∈ fs) → sumA I.D (arcsQ (L.map (rtQ bh 7))) = (L.map fun f => I.D 0 f).sum + ((L.map (rtQ bh 7)).flatten.map g).sum := by
    intro L
    induction L with
    | nil => intro _; rfl
    | cons f L ih =>
      intro h
      have h2 := ih fun x hx => h x (by simp [hx])
      unfold arcsQ sumA at h2 ⊢
      rw [List.map_cons, List.map_cons, List.flatten_cons, List.map_append, List.sum_append_int, h2, harc f (h f (by simp))]
      simp only [List.map_cons, List.sum_cons, List.flatten_cons, List.map_append, List.sum_append_int, List.map_map]
      have e : ((rtQ bh 7 f).map ((fun p : Nat × Nat => I.D p.1 p.2) ∘ fun s => (s, bh s))) = (rtQ bh 7 f).map g := rfl
      rw [e]; omega
  have h2 : ((fs.map (rtQ bh 7)).flatten.map g).sum = sumL (fun i => g (i + 1)) (List.range I.n) := by
    have e1 : ∀ L : List Nat, (∀ s ∈ L, 1 ≤ s) → (L.map g).sum = sumL (fun i => g (i + 1)) (L.map (· - 1)) := by
      intro L
      induction L with
      | nil => intro _; rfl
      | cons s L ih =>
        intro h
        have hs := h s (by simp)
        simp only [List.map_cons, List.sum_cons, sumL]
        rw [ih fun x hx => h x (by simp [hx]), show s - 1 + 1 = s by omega]
    rw [e1 _ fun s hs => (hp.stops s hs).1]
    refine sumL_all _ I.n _ (nodup_map_on hp.once fun a ha b hb e => ?_) (fun x hx => ?_) (by rw [List.length_map]; exact hp.count)
    · have := hp.stops a ha; have := hp.stops b hb; omega
    · obtain ⟨s, hs, rfl⟩ := List.mem_map.1 hx
      have := hp.stops s hs; omega
  have hcell : ∀ i, i < I.n + I.vans → cellQ I T i (col i).toNat = if lineN I.n i = 0 ∧ lineN I.n (col i).toNat = 0 then 0 else I.D (lineN I.n i) (lineN I.n (col i).toNat) := fun i hi => by
    obtain ⟨k, hk, _, ho⟩ := ht.tcol i hi
    have ek : (col i).toNat = k := by rw [hk]; rfl
    rw [ek]
    unfold cellQ at ho ⊢
    rcases cell_open ho with h4 | ⟨h4, _, _, _, h5⟩
    · rw [if_pos h4]; unfold cellS; rw [if_pos h4]
    · rw [h5, if_neg fun e => h4 (by rw [e.1, e.2])]
  have h3 : sumL (fun i => cellQ I T i (col i).toNat) (List.range I.n) = sumL (fun i => g (i + 1)) (List.range I.n) := sumL_congr fun i hi => by
    have hi' : i < I.n := by simpa using hi
    have hl : lineN I.n i = i + 1 := by unfold lineN; rw [if_pos hi']
    rw [hcell i (by omega), hl, if_neg (by omega)]
    show _ = I.D (i + 1) (lineN I.n (col (i + 1 - 1)).toNat)
    rw [Nat.add_sub_cancel]
  have h4 : sumL (fun k => cellQ I T (I.n + k) (col (I.n + k)).toNat) (List.range I.vans) = (fs.map fun f => I.D 0 f).sum := by
    have key : ∀ L : List Nat, (∀ k ∈ L, k < I.vans) → sumL (fun k => cellQ I T (I.n + k) (col (I.n + k)).toNat) L = (((L.map fun k => lineN I.n (col (I.n + k)).toNat).filter fun s => decide (s ≠ 0)).map fun f => I.D 0 f).sum := by
      intro L
      induction L with
      | nil => intro _; rfl
      | cons k L ih =>
        intro h
        have hk := h k (by simp)
        simp only [sumL]
        rw [ih fun x hx => h x (by simp [hx]), hcell (I.n + k) (by omega), line_van, List.map_cons]
        by_cases h0 : lineN I.n (col (I.n + k)).toNat = 0
        · rw [if_pos ⟨rfl, h0⟩, List.filter_cons_of_neg (by simpa using h0)]; omega
        · rw [if_neg fun e => h0 e.2, List.filter_cons_of_pos (by simpa using h0)]; simp
    exact key _ fun k hk => by simpa using hk
  show sumA I.D (arcsQ (fs.map (rtQ bh 7))) = cost
  rw [h1 fs fun f h => h, h2, ht.tcost, sum_split, h3, h4]; omega

/- the places of a tree: how deep, and how many nodes there can be -/
inductive PathOk (n : Nat) : PathT → Prop
  | nil : PathOk n []
  | cons {a b : Nat} {s : Bool} {P : PathT} : a ≤ n → b ≤ n → a ≠ b → tabP P a b = 0 → PathOk n P → PathOk n (((a, b), s) :: P)
theorem tab_mem {n : Nat} {P : PathT} (h : PathOk n P) : ∀ {ab : Nat × Nat} {s : Bool}, (ab, s) ∈ P → tabP P ab.1 ab.2 = (if s = true then 1 else 2) ∧ ab.1 ≤ n ∧ ab.2 ≤ n ∧ ab.1 ≠ ab.2 := by
  induction h with
  | nil => intro ab s hm; cases hm
  | @cons a b t P h1 h2 h3 h4 _ ih =>
    intro ab s hm
    rcases List.mem_cons.1 hm with e | e
    · cases e
      exact ⟨upd_at _ _ _ _, h1, h2, h3⟩
    · obtain ⟨k1, k2⟩ := ih e
      refine ⟨?_, k2⟩
      have hne : ¬ (ab.1 = a ∧ ab.2 = b) := fun e => by
        rw [e.1, e.2, h4] at k1
        cases s <;> simp at k1
      exact (upd_ne hne).trans k1
theorem tab_free {n : Nat} {P : PathT} (h : PathOk n P) {a b : Nat} (h0 : tabP P a b = 0) : ∀ s, ((a, b), s) ∉ P := fun s hm => by
  have := (tab_mem h hm).1
  simp only at this
  rw [h0] at this
  cases s <;> simp at this
theorem tab_range {n : Nat} {P : PathT} (h : PathOk n P) (a b : Nat) : tabP P a b = 0 ∨ tabP P a b = 1 ∨ tabP P a b = 2 := by
  induction h with
  | nil => exact .inl rfl
  | @cons a' b' t P h1 h2 h3 h4 _ ih =>
    by_cases e : a = a' ∧ b = b'
    · rw [e.1, e.2]
      have : tabP (((a', b'), t) :: P) a' b' = if t = true then 1 else 2 := upd_at _ _ _ _
      rw [this]; cases t <;> simp
    · have : tabP (((a', b'), t) :: P) a b = tabP P a b := upd_ne e
      rw [this]; exact ih
theorem tab_forced {n : Nat} {P : PathT} (h : PathOk n P) {a b : Nat} (h1 : tabP P a b = 1) : ((a, b), true) ∈ P := by
  induction h with
  | nil => exact absurd h1 (show (0 : Int) ≠ 1 by omega)
  | @cons a' b' t P _ _ _ h4 _ ih =>
    by_cases e : a = a' ∧ b = b'
    · rw [e.1, e.2] at h1 ⊢
      have : tabP (((a', b'), t) :: P) a' b' = if t = true then 1 else 2 := upd_at _ _ _ _
      rw [this] at h1
      cases t with
      | true => simp
      | false => simp at h1
    · have : tabP (((a', b'), t) :: P) a b = tabP P a b := upd_ne e
      rw [this] at h1
      exact List.mem_cons_of_mem _ (ih h1)
theorem path_leave {n : Nat} {P : PathT} (h : PathOk n P) : PathOk n (leaveP P) := by
  induction h with
  | nil => exact .nil
  | @cons a b s P h1 h2 h3 h4 h5 ih =>
    show PathOk n (if s = true then ((a, b), false) :: P else leaveP P)
    split
    · exact .cons h1 h2 h3 h4 h5
    · exact ih
theorem path_nodup {n : Nat} {P : PathT} (h : PathOk n P) : (P.map (·.1)).Nodup := by
  induction h with
  | nil => exact List.nodup_nil
  | @cons a b s P h1 h2 h3 h4 h5 ih =>
    rw [List.map_cons]
    refine List.nodup_cons.2 ⟨fun hm => ?_, ih⟩
    obtain ⟨p, hp, e⟩ := List.mem_map.1 hm
    obtain ⟨ab, t⟩ := p
    simp only at e
    subst e
    exact tab_free h5 h4 t hp
theorem nodup_subG {α : Type} [DecidableEq α] : ∀ (L M : List α), L.Nodup → (∀ x ∈ L, x ∈ M) → L.length ≤ M.length := by
  intro L
  induction L with
  | nil => intro M _ _; simp
  | cons a L ih =>
    intro M hd h
    have ha : a ∈ M := h a (by simp)
    have hd' := List.nodup_cons.1 hd
    have h1 := ih (M.erase a) hd'.2 (fun x hx => by
      have hne : x ≠ a := fun e => hd'.1 (e ▸ hx)
      exact (List.mem_erase_of_ne hne).2 (h x (by simp [hx])))
    rw [List.length_erase_of_mem ha] at h1
    have : 0 < M.length := List.length_pos_of_mem ha
    simp; omega
def allArcs : List Nat := (List.range 64).filter fun k => decide (k / 8 ≠ k % 8)
theorem allArcs_len : allArcs.length = 56 := by decide
theorem path_depth {n : Nat} (hn : n ≤ 7) {P : PathT} (h : PathOk n P) : P.length ≤ 56 := by
  have hr : ∀ p ∈ P, p.1.1 ≤ n ∧ p.1.2 ≤ n ∧ p.1.1 ≠ p.1.2 := fun p hp => (tab_mem h (ab := p.1) (s := p.2) hp).2
  have h1 := nodup_sub ((P.map (·.1)).map fun q => q.1 * 8 + q.2) allArcs (by
    rw [List.nodup_iff_pairwise_ne, List.pairwise_map]
    refine List.Pairwise.imp_of_mem (fun ha hb hne e => hne ?_) (List.nodup_iff_pairwise_ne.1 (path_nodup h))
    obtain ⟨p, hp, rfl⟩ := List.mem_map.1 ha
    obtain ⟨q, hq, rfl⟩ := List.mem_map.1 hb
    have h1 := hr p hp
    have h2 := hr q hq
    exact Prod.ext (by omega) (by omega)) (fun x hx => by
    obtain ⟨q, hq, rfl⟩ := List.mem_map.1 hx
    obtain ⟨p, hp, rfl⟩ := List.mem_map.1 hq
    have h1 := hr p hp
    unfold allArcs
    refine List.mem_filter.2 ⟨by simp; omega, ?_⟩
    simp only [decide_eq_true_eq]
    omega)
  rw [List.length_map, List.length_map, allArcs_len] at h1
  exact h1
theorem path_forced {I : Ins} {P : PathT} (h : PathOk I.n P) {col u v : Nat → Int} {cost : Int} (ht : Tight (I.n + I.vans) (cellQ I (tabP P)) col u v cost) {a b : Nat} (ha : a ≤ I.n) (hon : ArcOn I col a b) (h0 : tabP P a b = 0) : forcedP P + 1 ≤ I.n + I.vans := by
  have h1 := nodup_subG ((a, b) :: ((P.filter (·.2)).map (·.1))) ((List.range (I.n + I.vans)).map fun i => (lineN I.n i, lineN I.n (col i).toNat)) (List.nodup_cons.2 ⟨fun hm => by
      obtain ⟨p, hp, e⟩ := List.mem_map.1 hm
      obtain ⟨hp1, _⟩ := List.mem_filter.1 hp
      obtain ⟨ab, t⟩ := p
      simp only at e
      subst e
      exact tab_free h h0 t hp1, (List.Sublist.map _ List.filter_sublist).nodup (path_nodup h)⟩) (fun x hx => by
    have key : ∀ c d, c ≤ I.n → ArcOn I col c d → (c, d) ∈ (List.range (I.n + I.vans)).map fun i => (lineN I.n i, lineN I.n (col i).toNat) := fun c d hc hcd => by
      obtain ⟨i, hi, e1, e2, _⟩ := arc_row hc hcd
      exact List.mem_map.2 ⟨i, by simpa using hi, by rw [e1, e2]⟩
    rcases List.mem_cons.1 hx with e | e
    · rw [e]; exact key a b ha hon
    · obtain ⟨p, hp, rfl⟩ := List.mem_map.1 e
      obtain ⟨hp1, hp2⟩ := List.mem_filter.1 hp
      obtain ⟨ab, t⟩ := p
      simp only at hp2
      subst hp2
      obtain ⟨k1, k2, k3, k4⟩ := tab_mem h hp1
      exact key ab.1 ab.2 k2 (forced_on ht k2 k3 k4 (by simpa using k1)))
  simp only [List.length_cons, List.length_map, List.length_range] at h1
  exact h1
def bqN : Nat → Nat → Nat
  | 0, _ => 1
  | _ + 1, 0 => 1
  | d + 1, f + 1 => 1 + bqN d f + bqN d (f + 1)
theorem bq_pos (d f : Nat) : 1 ≤ bqN d f := by
  cases d with
  | zero => exact Nat.le_refl _
  | succ d => cases f with
    | zero => exact Nat.le_refl _
    | succ f => unfold bqN; omega
def pendN : PathT → Nat
  | [] => 0
  | p :: P => (if p.2 = true then bqN (56 - (P.length + 1)) (10 - forcedP P) else 0) + pendN P
theorem pendN_cons (p : (Nat × Nat) × Bool) (P : PathT) : pendN (p :: P) = (if p.2 = true then bqN (56 - (P.length + 1)) (10 - forcedP P) else 0) + pendN P := rfl
theorem bqN_succ (d f : Nat) : bqN (d + 1) (f + 1) = 1 + bqN d f + bqN d (f + 1) := rfl
def potN (P : PathT) : Nat := bqN (56 - P.length) (10 - forcedP P) + pendN P
theorem pot_branch {P : PathT} {ab : Nat × Nat} (h1 : P.length < 56) (h2 : forcedP P < 10) : potN ((ab, true) :: P) + 1 = potN P := by
  have e1 : forcedP ((ab, true) :: P) = forcedP P + 1 := by unfold forcedP; rw [List.filter_cons_of_pos rfl]; simp
  unfold potN
  rw [pendN_cons, e1, List.length_cons, if_pos rfl]
  obtain ⟨d, hd⟩ : ∃ d, 56 - P.length = d + 1 := ⟨55 - P.length, by omega⟩
  obtain ⟨f, hf⟩ : ∃ f, 10 - forcedP P = f + 1 := ⟨9 - forcedP P, by omega⟩
  rw [hd, hf, show 56 - (P.length + 1) = d by omega, show 10 - (forcedP P + 1) = f by omega, bqN_succ]
  omega
theorem pot_leave : ∀ (P : PathT), 0 < forcedP P → potN (leaveP P) ≤ pendN P := by
  intro P
  induction P with
  | nil => intro h; cases h
  | cons p P ih =>
    intro h
    rw [pendN_cons]
    unfold leaveP
    by_cases hp : p.2 = true
    · rw [if_pos hp, if_pos hp]
      unfold potN
      rw [pendN_cons]
      have e1 : forcedP ((p.1, false) :: P) = forcedP P := by unfold forcedP; rw [List.filter_cons_of_neg (by simp)]
      rw [e1, List.length_cons, if_neg (by simp)]
      omega
    · rw [if_neg hp, if_neg hp]
      have e1 : forcedP (p :: P) = forcedP P := by unfold forcedP; rw [List.filter_cons_of_neg hp]
      rw [e1] at h
      have := ih h
      omega
theorem leave_none : ∀ (P : PathT), forcedP P = 0 → leaveP P = [] := by
  intro P
  induction P with
  | nil => intro _; rfl
  | cons p P ih =>
    intro h
    unfold leaveP
    by_cases hp : p.2 = true
    · unfold forcedP at h; rw [List.filter_cons_of_pos hp] at h; simp at h
    · rw [if_neg hp]
      refine ih ?_
      unfold forcedP at h ⊢
      rwa [List.filter_cons_of_neg hp] at h
end Go.Proofs.YtebinaopncclgabGreatDoor
