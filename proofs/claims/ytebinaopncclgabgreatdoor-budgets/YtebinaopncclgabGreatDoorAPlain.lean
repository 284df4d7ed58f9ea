
/- Plain: a hunt for a column, what holds along it. -/
namespace Go.Proofs.YtebinaopncclgabGreatDoor

def up1 {α : Type} (f : Nat → α) (i : Nat) (x : α) : Nat → α := fun j => if j = i then x else f j
/- spread: from a row, which is start away -/
def spC (n : Nat) (C : Nat → Nat → Int) (u v : Nat → Int) (row : Nat) (start : Int) (far : Nat → Int) (dn : Nat → Bool) (c : Nat) : Prop :=
  c < n ∧ dn c = false ∧ C row c ≠ -1 ∧ (far c = -1 ∨ start + C row c - u row - v c < far c)
instance (n : Nat) (C : Nat → Nat → Int) (u v : Nat → Int) (row : Nat) (start : Int) (far : Nat → Int) (dn : Nat → Bool) (c : Nat) : Decidable (spC n C u v row start far dn c) := by unfold spC; infer_instance
def spFar (n : Nat) (C : Nat → Nat → Int) (u v : Nat → Int) (row : Nat) (start : Int) (far : Nat → Int) (dn : Nat → Bool) (c : Nat) : Int :=
  if spC n C u v row start far dn c then start + C row c - u row - v c else far c
def spFr (n : Nat) (C : Nat → Nat → Int) (u v : Nat → Int) (row : Nat) (frm start : Int) (far fr : Nat → Int) (dn : Nat → Bool) (c : Nat) : Int :=
  if spC n C u v row start far dn c then frm else fr c
/- nearest -/
def nearStep (far : Nat → Int) (dn : Nat → Bool) (best : Int) (c : Nat) : Int :=
  if dn c = true ∨ far c = -1 then best else if best = -1 ∨ far c < far best.toNat then (c : Int) else best
def nearS (n : Nat) (far : Nat → Int) (dn : Nat → Bool) : Int := (List.range n).foldl (nearStep far dn) (-1)
theorem near_succ (n : Nat) (far : Nat → Int) (dn : Nat → Bool) : nearS (n + 1) far dn = nearStep far dn (nearS n far dn) n := by simp [nearS, List.range_succ]
theorem near_spec (n : Nat) (far : Nat → Int) (dn : Nat → Bool) :
    (nearS n far dn = -1 ∧ ∀ c, c < n → dn c = true ∨ far c = -1) ∨ ∃ k : Nat, nearS n far dn = k ∧ k < n ∧ dn k = false ∧ far k ≠ -1 ∧ ∀ c, c < n → dn c = false → far c ≠ -1 → far k ≤ far c := by
  induction n with
  | zero => left; exact ⟨rfl, fun c h => absurd h (by omega)⟩
  | succ n ih =>
    rw [near_succ]
    unfold nearStep
    by_cases h : dn n = true ∨ far n = -1
    · rw [if_pos h]
      rcases ih with ⟨e, h1⟩ | ⟨k, e, hk, hd, hf, hm⟩
      · left; exact ⟨e, fun c hc => by
          by_cases hcn : c = n
          · rw [hcn]; exact h
          · exact h1 c (by omega)⟩
      · right; refine ⟨k, e, by omega, hd, hf, fun c hc h1 h2 => ?_⟩
        by_cases hcn : c = n
        · rw [hcn] at h1 h2
          rcases h with h | h
          · rw [h] at h1; cases h1
          · exact absurd h h2
        · exact hm c (by omega) h1 h2
    · rw [if_neg h]
      have hdn : dn n = false := by
        cases hb : dn n
        · rfl
        · exact absurd (.inl hb) h
      have hfn : far n ≠ -1 := fun e => h (.inr e)
      rcases ih with ⟨e, h1⟩ | ⟨k, e, hk, hd, hf, hm⟩
      · rw [e, if_pos (.inl rfl)]
        right; refine ⟨n, rfl, by omega, hdn, hfn, fun c hc h2 h3 => ?_⟩
        by_cases hcn : c = n
        · rw [hcn]; exact Int.le_refl _
        · rcases h1 c (by omega) with h4 | h4
          · rw [h4] at h2; cases h2
          · exact absurd h4 h3
      · rw [e]
        by_cases hlt : (k : Int) = -1 ∨ far n < far (k : Int).toNat
        · rw [if_pos hlt]
          have hlt2 : far n < far k := by
            rcases hlt with h | h
            · omega
            · simpa using h
          right; refine ⟨n, rfl, by omega, hdn, hfn, fun c hc h2 h3 => ?_⟩
          by_cases hcn : c = n
          · rw [hcn]; exact Int.le_refl _
          · have := hm c (by omega) h2 h3; omega
        · rw [if_neg hlt]
          have hge : far k ≤ far n := by
            have : ¬ far n < far (k : Int).toNat := fun h => hlt (.inr h)
            simp at this; exact this
          right; refine ⟨k, rfl, by omega, hd, hf, fun c hc h2 h3 => ?_⟩
          by_cases hcn : c = n
          · rw [hcn]; exact hge
          · exact hm c (by omega) h2 h3

/- what the table holds ahead of the hunt of a row -/
structure TInv (n : Nat) (C : Nat → Nat → Int) (u v ow : Nat → Int) (root : Nat) : Prop where
  under : ∀ i j, i < n → j < n → C i j ≠ -1 → u i + v j ≤ C i j
  own : ∀ j, j < n → ow j = -1 ∨ ∃ i : Nat, ow j = i ∧ i < root ∧ C i j ≠ -1 ∧ u i + v j = C i j
  inj : ∀ j k, j < n → k < n → ow j = ow k → ow j ≠ -1 → j = k
  free : ∀ j, j < n → ow j = -1 → v j = 0
  vneg : ∀ j, j < n → v j ≤ 0
  upos : ∀ i, i < n → 0 ≤ u i
  uzero : ∀ i, i < n → root ≤ i → u i = 0
  all : ∀ i : Nat, i < root → ∃ j, j < n ∧ ow j = i
  ubd : ∀ i, i < n → u i ≤ (root : Int) * 2000000
  vbd : ∀ j, j < n → -((root : Int) * 2000000) ≤ v j
def CellOk (n : Nat) (C : Nat → Nat → Int) : Prop := ∀ i j, i < n → j < n → -1 ≤ C i j ∧ C i j ≤ 200000
/- what holds in a hunt: P c: the owner of the column c has been gone on from -/
structure HInv (n : Nat) (C : Nat → Nat → Int) (u v ow : Nat → Int) (root : Nat) (far fr : Nat → Int) (dn : Nat → Bool) (ord : Nat → Nat) (cnt : Nat) (P : Nat → Prop) : Prop where
  sub : ∀ c, c < n → P c → dn c = true ∧ ow c ≠ -1
  known : ∀ c, c < n → dn c = true → far c ≠ -1
  pos : ∀ c, c < n → far c = -1 ∨ 0 ≤ far c
  rootRow : ∀ j, j < n → C root j ≠ -1 → far j ≠ -1 ∧ far j ≤ C root j - u root - v j
  row : ∀ c, c < n → P c → ∀ j, j < n → C (ow c).toNat j ≠ -1 → far j ≠ -1 ∧ far j ≤ far c + C (ow c).toNat j - u (ow c).toNat - v j
  mon : ∀ c, c < n → dn c = true → ∀ j, j < n → dn j = false → far j ≠ -1 → far c ≤ far j
  way : ∀ j, j < n → far j ≠ -1 → (fr j = -1 ∧ C root j ≠ -1 ∧ far j = C root j - u root - v j) ∨ ∃ c : Nat, c < n ∧ fr j = c ∧ P c ∧ (dn j = true → ord c < ord j) ∧ C (ow c).toNat j ≠ -1 ∧ far j = far c + C (ow c).toNat j - u (ow c).toNat - v j
  rank : ∀ c, c < n → dn c = true → ord c < cnt
  bd : ∀ j, j < n → far j ≠ -1 → far j ≤ ((cnt : Int) + 1) * 200000 - v j

theorem hunt_begin {n : Nat} {C : Nat → Nat → Int} {u v ow : Nat → Int} {root : Nat} (hc : CellOk n C) (ht : TInv n C u v ow root) (hr : root < n) (far fr : Nat → Int) (hf : ∀ c, c < n → far c = -1) (ord : Nat → Nat) :
    HInv n C u v ow root (spFar n C u v root 0 far (fun _ => false)) (spFr n C u v root (-1) 0 far fr (fun _ => false)) (fun _ => false) ord 0 (fun _ => False) := by
  have hsp : ∀ c, c < n → (spC n C u v root 0 far (fun _ => false) c ↔ C root c ≠ -1) := fun c h => by
    unfold spC; simp [hf c h, h]
  have e1 : ∀ c, c < n → C root c ≠ -1 → spFar n C u v root 0 far (fun _ => false) c = C root c - u root - v c := fun c h h1 => by
    unfold spFar; rw [if_pos ((hsp c h).2 h1)]; omega
  have e2 : ∀ c, c < n → C root c = -1 → spFar n C u v root 0 far (fun _ => false) c = -1 := fun c h h1 => by
    unfold spFar; rw [if_neg (fun h2 => (hsp c h).1 h2 h1), hf c h]
  have hu := ht.uzero root hr (Nat.le_refl _)
  have hp : ∀ c, c < n → C root c ≠ -1 → 0 ≤ C root c - u root - v c := fun c h h1 => by
    have := ht.under root c hr h h1; omega
  refine ⟨fun c _ h => h.elim, fun c _ h => (by cases h), fun c h => ?_, fun j h h1 => ?_, fun c _ h => h.elim, fun c _ h => (by cases h), fun j h h1 => ?_, fun c _ h => (by cases h), fun j h h1 => ?_⟩
  · by_cases h1 : C root c = -1
    · exact .inl (e2 c h h1)
    · exact .inr (by rw [e1 c h h1]; exact hp c h h1)
  · rw [e1 j h h1]; have := hp j h h1; exact ⟨by omega, Int.le_refl _⟩
  · by_cases h2 : C root j = -1
    · exact absurd (e2 j h h2) h1
    · left; exact ⟨by unfold spFr; rw [if_pos ((hsp j h).2 h2)], h2, e1 j h h2⟩
  · by_cases h2 : C root j = -1
    · exact absurd (e2 j h h2) h1
    · rw [e1 j h h2]; have := (hc root j hr h).2; simp; omega

/- the nearest column is done -/
theorem hunt_mark {n : Nat} {C : Nat → Nat → Int} {u v ow : Nat → Int} {root : Nat} {far fr : Nat → Int} {dn : Nat → Bool} {ord : Nat → Nat} {cnt k : Nat}
    (h : HInv n C u v ow root far fr dn ord cnt (fun c => dn c = true)) (_hk : k < n) (hd : dn k = false) (hf : far k ≠ -1) (hm : ∀ c, c < n → dn c = false → far c ≠ -1 → far k ≤ far c) :
    HInv n C u v ow root far fr (up1 dn k true) (up1 ord k cnt) (cnt + 1) (fun c => dn c = true) := by
  have hne : ∀ c, dn c = true → c ≠ k := fun c hc e => by rw [e, hd] at hc; cases hc
  have hu : ∀ c, dn c = true → up1 dn k true c = true := fun c hc => by unfold up1; rw [if_neg (hne c hc)]; exact hc
  refine ⟨fun c hc hp => ⟨hu c hp, (h.sub c hc hp).2⟩, fun c hc hp => ?_, h.pos, h.rootRow, h.row, fun c hc hp j hj hjd hjf => ?_, fun j hj hjf => ?_, fun c hc hp => ?_, fun j hj hjf => ?_⟩
  · unfold up1 at hp
    by_cases e : c = k
    · rw [e]; exact hf
    · rw [if_neg e] at hp; exact h.known c hc hp
  · have hjk : j ≠ k := fun e => by rw [e] at hjd; unfold up1 at hjd; rw [if_pos rfl] at hjd; cases hjd
    unfold up1 at hp hjd
    rw [if_neg hjk] at hjd
    by_cases e : c = k
    · rw [e]; exact hm j hj hjd hjf
    · rw [if_neg e] at hp; exact h.mon c hc hp j hj hjd hjf
  · rcases h.way j hj hjf with h1 | ⟨c, hc, h1, h2, h3, h4⟩
    · exact .inl h1
    · right
      refine ⟨c, hc, h1, h2, fun hj2 => ?_, h4⟩
      unfold up1 at hj2 ⊢
      rw [if_neg (hne c h2)]
      by_cases e : j = k
      · rw [if_pos e]; exact h.rank c hc h2
      · rw [if_neg e] at hj2 ⊢; exact h3 hj2
  · unfold up1 at hp ⊢
    by_cases e : c = k
    · rw [if_pos e]; omega
    · rw [if_neg e] at hp ⊢; have := h.rank c hc hp; omega
  · have := h.bd j hj hjf; omega

/- and the hunt goes on from its owner -/
theorem hunt_spread {n : Nat} {C : Nat → Nat → Int} {u v ow : Nat → Int} {root : Nat} {far fr : Nat → Int} {dn : Nat → Bool} {ord : Nat → Nat} {cnt k : Nat} (hc : CellOk n C) (ht : TInv n C u v ow root) (hrn : root < n)
    (h : HInv n C u v ow root far fr dn ord cnt (fun c => dn c = true ∧ c ≠ k)) (hk : k < n) (hd : dn k = true) (ho : ow k ≠ -1) (hlast : ∀ c, c < n → dn c = true → far c ≤ far k) (hmin : ∀ j, j < n → dn j = false → far j ≠ -1 → far k ≤ far j)
    (hcnt : ∀ j, j < n → far j ≠ -1 → far j ≤ (cnt : Int) * 200000 - v j) :
    HInv n C u v ow root (spFar n C u v (ow k).toNat (far k) far dn) (spFr n C u v (ow k).toNat k (far k) far fr dn) dn ord cnt (fun c => dn c = true) := by
  obtain ⟨i, hi, hir, hio, hit⟩ : ∃ i : Nat, ow k = i ∧ i < root ∧ C i k ≠ -1 ∧ u i + v k = C i k := by
    rcases ht.own k hk with h1 | h1
    · exact absurd h1 ho
    · exact h1
  have hin : i < n := by omega
  rw [hi]
  simp only [Int.toNat_natCast]
  have hfk : far k ≠ -1 := h.known k hk hd
  have hfk0 : 0 ≤ far k := by rcases h.pos k hk with h1 | h1; exact absurd h1 hfk; exact h1
  have hred : ∀ j, j < n → C i j ≠ -1 → 0 ≤ C i j - u i - v j := fun j hj h1 => by have := ht.under i j hin hj h1; omega
  have edn : ∀ c, dn c = true → spFar n C u v i (far k) far dn c = far c := fun c h1 => by
    unfold spFar; rw [if_neg]; intro h2; unfold spC at h2; rw [h1] at h2; exact absurd h2.2.1 (by simp)
  have hcase : ∀ j, j < n → (spFar n C u v i (far k) far dn j = far j ∧ spFr n C u v i k (far k) far fr dn j = fr j) ∨ (dn j = false ∧ C i j ≠ -1 ∧ spFar n C u v i (far k) far dn j = far k + C i j - u i - v j ∧ spFr n C u v i k (far k) far fr dn j = k ∧ (far j = -1 ∨ far k + C i j - u i - v j < far j)) := fun j hj => by
    by_cases h1 : spC n C u v i (far k) far dn j
    · right; unfold spFar spFr; rw [if_pos h1, if_pos h1]; exact ⟨h1.2.1, h1.2.2.1, rfl, rfl, h1.2.2.2⟩
    · left; unfold spFar spFr; rw [if_neg h1, if_neg h1]; exact ⟨rfl, rfl⟩
  -- far only falls, and stays known
  have hle : ∀ j, j < n → far j ≠ -1 → spFar n C u v i (far k) far dn j ≠ -1 ∧ spFar n C u v i (far k) far dn j ≤ far j := fun j hj h1 => by
    rcases hcase j hj with ⟨e, _⟩ | ⟨_, h2, e, _, h3⟩
    · rw [e]; exact ⟨h1, Int.le_refl _⟩
    · rw [e]; have := hred j hj h2
      rcases h3 with h3 | h3
      · exact absurd h3 h1
      · exact ⟨by omega, by omega⟩
  have hnew : ∀ j, j < n → C i j ≠ -1 → spFar n C u v i (far k) far dn j ≠ -1 ∧ spFar n C u v i (far k) far dn j ≤ far k + C i j - u i - v j := fun j hj h1 => by
    have hr := hred j hj h1
    cases hdj : dn j
    · by_cases h2 : spC n C u v i (far k) far dn j
      · unfold spFar; rw [if_pos h2]; exact ⟨by omega, Int.le_refl _⟩
      · have h3 : far j ≠ -1 ∧ far j ≤ far k + C i j - u i - v j := by
          refine ⟨fun e => h2 ⟨hj, hdj, h1, .inl e⟩, ?_⟩
          apply Int.not_lt.1
          intro e
          exact h2 ⟨hj, hdj, h1, .inr e⟩
        unfold spFar; rw [if_neg h2]; exact h3
    · rw [edn j hdj]
      have := hlast j hj hdj
      exact ⟨h.known j hj hdj, by omega⟩
  refine ⟨fun c hcn hp => ⟨hp, ?_⟩, fun c hcn hp => ?_, fun c hcn => ?_, fun j hj h1 => ?_, fun c hcn hp j hj h1 => ?_, fun c hcn hp j hj hjd hjf => ?_, fun j hj hjf => ?_, h.rank, fun j hj hjf => ?_⟩
  · by_cases e : c = k
    · rw [e]; exact ho
    · exact (h.sub c hcn ⟨hp, e⟩).2
  · rw [edn c hp]; exact h.known c hcn hp
  · rcases hcase c hcn with ⟨e, _⟩ | ⟨_, h2, e, _⟩
    · rw [e]; exact h.pos c hcn
    · rw [e]; have := hred c hcn h2; right; omega
  · have h2 := h.rootRow j hj h1
    have h3 := hle j hj h2.1
    exact ⟨h3.1, by omega⟩
  · rw [edn c hp]
    by_cases e : c = k
    · rw [e, hi] at h1 ⊢
      simp only [Int.toNat_natCast] at h1 ⊢
      exact hnew j hj h1
    · have h2 := h.row c hcn ⟨hp, e⟩ j hj h1
      have h3 := hle j hj h2.1
      exact ⟨h3.1, by omega⟩
  · rw [edn c hp]
    have h1 := hlast c hcn hp
    rcases hcase j hj with ⟨e, _⟩ | ⟨_, h2, e, _⟩
    · rw [e] at hjf ⊢; have := hmin j hj hjd hjf; omega
    · rw [e]; have := hred j hj h2; omega
  · rcases hcase j hj with ⟨e, e2⟩ | ⟨hjd, h2, e, e2, _⟩
    · rw [e] at hjf ⊢
      rw [e2]
      rcases h.way j hj hjf with h3 | ⟨c, hcn, h3, h4, h5, h6, h7⟩
      · exact .inl h3
      · right; exact ⟨c, hcn, h3, h4.1, h5, h6, by rw [edn c h4.1]; exact h7⟩
    · right
      refine ⟨k, hk, e2, hd, fun h3 => (by rw [hjd] at h3; cases h3), by rw [hi]; simpa using h2, ?_⟩
      rw [e, edn k hd, hi]; simp
  · rcases hcase j hj with ⟨e, _⟩ | ⟨_, h2, e, _⟩
    · rw [e] at hjf ⊢; exact h.bd j hj hjf
    · rw [e]
      have h3 := hcnt k hk hfk
      have h4 := (hc i j hin hj).2
      have h5 := (hc i k hin hk).1
      omega

/- the end of a hunt: the column e is free -/
structure HEnd (n : Nat) (C : Nat → Nat → Int) (u v ow : Nat → Int) (root : Nat) (far fr : Nat → Int) (dn : Nat → Bool) (ord : Nat → Nat) (cnt e : Nat) : Prop where
  inv : HInv n C u v ow root far fr dn ord cnt (fun c => dn c = true ∧ c ≠ e)
  lt : e < n
  dne : dn e = true
  free : ow e = -1
  last : ∀ c, c < n → dn c = true → far c ≤ far e
  small : far e ≤ 2000000

/- the numbers are raised -/
structure Raised (n : Nat) (u v ow : Nat → Int) (root : Nat) (far : Nat → Int) (dn : Nat → Bool) (D : Int) (u' v' : Nat → Int) : Prop where
  ur : u' root = u root + D
  uo : ∀ c, c < n → dn c = true → ow c ≠ -1 → u' (ow c).toNat = u (ow c).toNat + (D - far c)
  us : ∀ i, i < n → i ≠ root → (∀ c, c < n → dn c = true → ow c ≠ (i : Int)) → u' i = u i
  vd : ∀ c, c < n → dn c = true → ow c ≠ -1 → v' c = v c - (D - far c)
  vs : ∀ c, c < n → ¬ (dn c = true ∧ ow c ≠ -1) → v' c = v c
/- the columns are handed on: W: those that got the row of the column that led there; j: the one that the root got -/
structure Given (n : Nat) (ow fr : Nat → Int) (root e : Nat) (W : Nat → Prop) (j : Nat) (ow' : Nat → Int) : Prop where
  jlt : j < n
  jw : ¬ W j
  jr : fr j = -1
  oj : ow' j = root
  gw : ∀ c, c < n → W c → ∃ d : Nat, d < n ∧ fr c = d ∧ ow' c = ow d ∧ (W d ∨ d = j)
  gs : ∀ c, c < n → ¬ W c → c ≠ j → ow' c = ow c
  one : ∀ c d, c < n → d < n → W c → W d → fr c = fr d → c = d
  led : ∀ c, c < n → W c ∨ c = j → c ≠ e → ∃ d, d < n ∧ W d ∧ fr d = (c : Int)
  gd : ∀ c, c < n → W c ∨ c = j → c = e ∨ ow c ≠ -1

theorem hunt_done {n : Nat} {C : Nat → Nat → Int} {u v ow : Nat → Int} {root : Nat} {far fr : Nat → Int} {dn : Nat → Bool} {ord : Nat → Nat} {cnt e j : Nat} {u' v' ow' : Nat → Int} {W : Nat → Prop} (ht : TInv n C u v ow root) (hrn : root < n)
    (he : HEnd n C u v ow root far fr dn ord cnt e) (hra : Raised n u v ow root far dn (far e) u' v') (hg : Given n ow fr root e W j ow') (hdn : ∀ c, c < n → W c ∨ c = j → dn c = true) : TInv n C u' v' ow' (root + 1) := by
  have hi := he.inv
  have hen : far e ≠ -1 := hi.known e he.lt he.dne
  have he0 : 0 ≤ far e := by rcases hi.pos e he.lt with h | h; exact absurd h hen; exact h
  have hds : ∀ c, c < n → dn c = true → 0 ≤ far e - far c ∧ 0 ≤ far c := fun c hc h => by
    have h1 := he.last c hc h
    have h2 := hi.known c hc h
    rcases hi.pos c hc with h3 | h3
    · exact absurd h3 h2
    · omega
  have hown : ∀ c, c < n → ow c ≠ -1 → ∃ i : Nat, ow c = i ∧ i < root ∧ C i c ≠ -1 ∧ u i + v c = C i c := fun c hc h => by
    rcases ht.own c hc with h1 | h1
    · exact absurd h1 h
    · exact h1
  have hP : ∀ c, c < n → dn c = true → ow c ≠ -1 → dn c = true ∧ c ≠ e := fun c _ h1 h2 => ⟨h1, fun e2 => h2 (by rw [e2]; exact he.free)⟩
  -- every row is reached with some distance, or not
  have hrow : ∀ i, i < n → (∃ d : Int, u' i = u i + (far e - d) ∧ 0 ≤ d ∧ d ≤ far e ∧ ∀ k, k < n → C i k ≠ -1 → far k ≠ -1 ∧ far k ≤ d + C i k - u i - v k) ∨ u' i = u i := fun i hin => by
    by_cases h1 : i = root
    · left
      refine ⟨0, by rw [h1, hra.ur]; omega, Int.le_refl _, he0, fun k hk h2 => ?_⟩
      rw [h1] at h2 ⊢
      have := hi.rootRow k hk h2
      exact ⟨this.1, by omega⟩
    · by_cases h2 : ∃ c, c < n ∧ dn c = true ∧ ow c = (i : Int)
      · obtain ⟨c, hc, h3, h4⟩ := h2
        have hno : ow c ≠ -1 := by rw [h4]; omega
        left
        refine ⟨far c, ?_, (hds c hc h3).2, he.last c hc h3, fun k hk h5 => ?_⟩
        · have := hra.uo c hc h3 hno
          rw [h4] at this; simpa using this
        · have := hi.row c hc (hP c hc h3 hno) k hk (by rw [h4]; simpa using h5)
          rw [h4] at this; simpa using this
      · right
        exact hra.us i hin h1 (fun c hc h3 h4 => h2 ⟨c, hc, h3, h4⟩)
  -- every column went down by some amount
  have hcol : ∀ k, k < n → (dn k = true ∧ v' k = v k - (far e - far k)) ∨ (dn k = false ∧ v' k = v k) := fun k hk => by
    cases hd : dn k
    · right; exact ⟨rfl, hra.vs k hk (by rw [hd]; simp)⟩
    · left; refine ⟨rfl, ?_⟩
      by_cases h1 : ow k = -1
      · rw [hra.vs k hk (by simp [h1])]
        have h2 : k = e := by
          by_cases h3 : k = e
          · exact h3
          · exact absurd h1 (hi.sub k hk ⟨hd, h3⟩).2
        rw [h2]; omega
      · exact hra.vd k hk hd h1
  have under : ∀ i k, i < n → k < n → C i k ≠ -1 → u' i + v' k ≤ C i k := fun i k hin hk h1 => by
    have h0 := ht.under i k hin hk h1
    rcases hrow i hin with ⟨d, h2, h3, h4, h5⟩ | h2
    · have h6 := h5 k hk h1
      rcases hcol k hk with ⟨h7, h8⟩ | ⟨h7, h8⟩
      · rw [h2, h8]; omega
      · have h9 := hi.mon e he.lt he.dne k hk h7 h6.1
        rw [h2, h8]; omega
    · rcases hcol k hk with ⟨h7, h8⟩ | ⟨_, h8⟩
      · have := (hds k hk h7).1
        rw [h2, h8]; omega
      · rw [h2, h8]; exact h0
  -- what an owner has is as tight as it was
  have keep : ∀ c, c < n → ow c ≠ -1 → ∀ i : Nat, ow c = i → u' i + v' c = u i + v c := fun c hc h1 i h2 => by
    obtain ⟨i', e1, hir, _, _⟩ := hown c hc h1
    have hii : i' = i := by rw [e1] at h2; omega
    subst hii
    cases hd : dn c
    · rw [hra.vs c hc (by rw [hd]; simp), hra.us i' (by omega) (by omega) (fun k hk h3 h4 => by
        have := ht.inj k c hk hc (by rw [h4, h2]) (by rw [h4]; omega)
        rw [this, hd] at h3; cases h3)]
    · have h3 := hra.uo c hc hd h1
      rw [h2] at h3
      simp only [Int.toNat_natCast] at h3
      rw [h3, hra.vd c hc hd h1]; omega
  have vne : ∀ k, k < n → v' k ≤ v k := fun k hk => by
    rcases hcol k hk with ⟨h1, h2⟩ | ⟨_, h2⟩
    · have := (hds k hk h1).1; rw [h2]; omega
    · rw [h2]; exact Int.le_refl _
  have ule : ∀ i, i < n → u i ≤ u' i ∧ u' i ≤ u i + 2000000 := fun i hin => by
    have := he.small
    rcases hrow i hin with ⟨d, h1, h2, h3, _⟩ | h1
    · rw [h1]; omega
    · rw [h1]; omega
  -- the new owners
  have newown : ∀ c, c < n → ow' c = -1 ∨ ∃ i : Nat, ow' c = i ∧ i < root + 1 ∧ C i c ≠ -1 ∧ u' i + v' c = C i c := fun c hc => by
    by_cases hw : W c
    · obtain ⟨d, hdn', h1, h2, _⟩ := hg.gw c hc hw
      have hdc := hdn c hc (.inl hw)
      rcases hi.way c hc (hi.known c hc hdc) with ⟨h3, _⟩ | ⟨c', hc', h3, h4, _, h6, h7⟩
      · rw [h1] at h3; omega
      · have hcd : c' = d := by rw [h1] at h3; omega
        subst hcd
        have hno := (hi.sub c' hc' h4).2
        obtain ⟨i, e1, hir, _, _⟩ := hown c' hc' hno
        right
        refine ⟨i, by rw [h2, e1], by omega, by rw [e1] at h6; simpa using h6, ?_⟩
        have h8 := hra.uo c' hc' h4.1 hno
        rw [e1] at h7 h8
        simp only [Int.toNat_natCast] at h7 h8
        rcases hcol c hc with ⟨_, h9⟩ | ⟨h9, _⟩
        · rw [h8, h9]; omega
        · rw [h9] at hdc; cases hdc
    · by_cases hj : c = j
      · subst hj
        have hdc := hdn c hc (.inr rfl)
        rcases hi.way c hc (hi.known c hc hdc) with ⟨_, h4, h5⟩ | ⟨c', hc', h3, _⟩
        · right
          refine ⟨root, hg.oj, by omega, h4, ?_⟩
          rcases hcol c hc with ⟨_, h9⟩ | ⟨h9, _⟩
          · rw [hra.ur, h9]; omega
          · rw [h9] at hdc; cases hdc
        · rw [hg.jr] at h3; omega
      · rw [hg.gs c hc hw hj]
        by_cases h1 : ow c = -1
        · exact .inl h1
        · obtain ⟨i, e1, hir, h2, h3⟩ := hown c hc h1
          exact .inr ⟨i, e1, by omega, h2, by rw [keep c hc h1 i e1]; exact h3⟩
  -- no row has two
  have lowner : ∀ c, c < n → ow c ≠ (root : Int) := fun c hc h => by
    by_cases h1 : ow c = -1
    · omega
    · obtain ⟨i, e1, hir, _⟩ := hown c hc h1; omega
  have cls : ∀ c, c < n → (W c ∧ ∃ d : Nat, d < n ∧ fr c = d ∧ ow' c = ow d ∧ (W d ∨ d = j)) ∨ (c = j ∧ ow' c = root) ∨ (¬ W c ∧ c ≠ j ∧ ow' c = ow c) := fun c hc => by
    by_cases hw : W c
    · exact .inl ⟨hw, hg.gw c hc hw⟩
    · by_cases hj : c = j
      · exact .inr (.inl ⟨hj, by rw [hj]; exact hg.oj⟩)
      · exact .inr (.inr ⟨hw, hj, hg.gs c hc hw hj⟩)
  have inj : ∀ c k, c < n → k < n → ow' c = ow' k → ow' c ≠ -1 → c = k := fun c k hc hk h1 h2 => by
    rcases cls c hc with ⟨w1, d, d1, d2, d3, d4⟩ | ⟨w1, d3⟩ | ⟨w1, w2, d3⟩ <;> rcases cls k hk with ⟨x1, f, f1, f2, f3, f4⟩ | ⟨x1, f3⟩ | ⟨x1, x2, f3⟩
    · have : d = f := ht.inj d f d1 f1 (by rw [← d3, ← f3]; exact h1) (by rw [← d3]; exact h2)
      exact hg.one c k hc hk w1 x1 (by rw [d2, f2, this])
    · rw [d3, f3] at h1; exact absurd h1 (lowner d d1)
    · have : d = k := ht.inj d k d1 hk (by rw [← d3, ← f3]; exact h1) (by rw [← d3]; exact h2)
      rw [this] at d4
      rcases d4 with d4 | d4
      · exact absurd d4 x1
      · exact absurd d4 x2
    · rw [d3, f3] at h1; exact absurd h1.symm (lowner f f1)
    · rw [w1, x1]
    · rw [d3, f3] at h1; exact absurd h1.symm (lowner k hk)
    · have : c = f := ht.inj c f hc f1 (by rw [← d3, ← f3]; exact h1) (by rw [← d3]; exact h2)
      rw [← this] at f4
      rcases f4 with f4 | f4
      · exact absurd f4 w1
      · exact absurd f4 w2
    · rw [d3, f3] at h1; exact absurd h1 (lowner c hc)
    · exact ht.inj c k hc hk (by rw [← d3, ← f3]; exact h1) (by rw [← d3]; exact h2)
  refine ⟨under, newown, inj, fun k hk h => ?_, fun k hk => ?_, fun i hin => ?_, fun i hin h => ?_, fun i hir => ?_, fun i hin => ?_, fun k hk => ?_⟩
  · -- a free column was free
    have h1 : ow k = -1 := by
      rcases cls k hk with ⟨w1, d, d1, d2, d3, d4⟩ | ⟨w1, d3⟩ | ⟨w1, w2, d3⟩
      · rw [d3] at h
        have hd2 : d ≠ e := fun e2 => by
          have hdc := hdn k hk (.inl w1)
          rcases hi.way k hk (hi.known k hk hdc) with ⟨h3, _⟩ | ⟨c', hc', h3, h4, _⟩
          · rw [d2] at h3; omega
          · have : c' = d := by rw [d2] at h3; omega
            rw [this] at h4; exact h4.2 e2
        rcases hg.gd d d1 d4 with h2 | h2
        · exact absurd h2 hd2
        · exact absurd h h2
      · omega
      · rw [← d3]; exact h
    have h2 := ht.free k hk h1
    have h3 : v' k = v k := hra.vs k hk (by simp [h1])
    rw [h3, h2]
  · have := vne k hk; have := ht.vneg k hk; omega
  · have := (ule i hin).1; have := ht.upos i hin; omega
  · rw [hra.us i hin (by omega) (fun c hc _ h4 => by
      by_cases h5 : ow c = -1
      · omega
      · obtain ⟨i', e1, hir, _⟩ := hown c hc h5; omega)]
    exact ht.uzero i hin (by omega)
  · by_cases h1 : i = root
    · exact ⟨j, hg.jlt, by rw [h1]; exact hg.oj⟩
    · obtain ⟨c, hc, h2⟩ := ht.all i (by omega)
      by_cases h3 : W c ∨ c = j
      · have hce : c ≠ e := fun e2 => by rw [e2, he.free] at h2; omega
        obtain ⟨d, hd, hw, hf⟩ := hg.led c hc h3 hce
        obtain ⟨d', d1, d2, d3, _⟩ := hg.gw d hd hw
        have : d' = c := by rw [hf] at d2; omega
        exact ⟨d, hd, by rw [d3, this, h2]⟩
      · exact ⟨c, hc, by rw [hg.gs c hc (fun h => h3 (.inl h)) (fun h => h3 (.inr h)), h2]⟩
  · have h1 := (ule i hin).2
    have h2 := ht.ubd i hin
    have : ((root + 1 : Nat) : Int) * 2000000 = (root : Int) * 2000000 + 2000000 := by omega
    omega
  · have h2 := ht.vbd k hk
    have h3 := he.small
    have : ((root + 1 : Nat) : Int) * 2000000 = (root : Int) * 2000000 + 2000000 := by omega
    rcases hcol k hk with ⟨h4, h5⟩ | ⟨_, h5⟩
    · have := (hds k hk h4); rw [h5]; omega
    · rw [h5]; omega

/- raise, column by column -/
def rzU (ow far : Nat → Int) (dn : Nat → Bool) (D : Int) (u0 : Nat → Int) : Nat → Nat → Int
  | 0 => u0
  | k + 1 => if dn k = true ∧ ow k ≠ -1 then up1 (rzU ow far dn D u0 k) (ow k).toNat (rzU ow far dn D u0 k (ow k).toNat + (D - far k)) else rzU ow far dn D u0 k
def rzV (ow far : Nat → Int) (dn : Nat → Bool) (D : Int) (v0 : Nat → Int) : Nat → Nat → Int
  | 0 => v0
  | k + 1 => if dn k = true ∧ ow k ≠ -1 then up1 (rzV ow far dn D v0 k) k (rzV ow far dn D v0 k k - (D - far k)) else rzV ow far dn D v0 k
theorem rzV_at (ow far : Nat → Int) (dn : Nat → Bool) (D : Int) (v0 : Nat → Int) (k c : Nat) : rzV ow far dn D v0 k c = if c < k ∧ dn c = true ∧ ow c ≠ -1 then v0 c - (D - far c) else v0 c := by
  induction k with
  | zero => unfold rzV; rw [if_neg (by omega)]
  | succ k ih =>
    unfold rzV
    by_cases h : dn k = true ∧ ow k ≠ -1
    · rw [if_pos h]
      unfold up1
      by_cases e : c = k
      · subst e
        rw [if_pos rfl, if_pos ⟨by omega, h⟩, ih, if_neg (by omega)]
      · rw [if_neg e, ih]
        by_cases h2 : c < k ∧ dn c = true ∧ ow c ≠ -1
        · rw [if_pos h2, if_pos ⟨by omega, h2.2⟩]
        · rw [if_neg h2, if_neg (fun h3 => h2 ⟨by omega, h3.2⟩)]
    · rw [if_neg h, ih]
      by_cases h2 : c < k ∧ dn c = true ∧ ow c ≠ -1
      · rw [if_pos h2, if_pos ⟨by omega, h2.2⟩]
      · rw [if_neg h2, if_neg]
        rintro ⟨h3, h4⟩
        by_cases e : c = k
        · subst e; exact h h4
        · exact h2 ⟨by omega, h4⟩
theorem rz_raised {n : Nat} {C : Nat → Nat → Int} {u v ow : Nat → Int} {root : Nat} {far : Nat → Int} {dn : Nat → Bool} {D : Int} (ht : TInv n C u v ow root) :
    Raised n u v ow root far dn D (rzU ow far dn D (up1 u root (u root + D)) n) (rzV ow far dn D v n) := by
  have hown : ∀ c, c < n → ow c ≠ -1 → ∃ i : Nat, ow c = i ∧ i < root := fun c hc h => by
    rcases ht.own c hc with h1 | ⟨i, h1, h2, _⟩
    · exact absurd h1 h
    · exact ⟨i, h1, h2⟩
  have key : ∀ k, k ≤ n → rzU ow far dn D (up1 u root (u root + D)) k root = u root + D ∧ (∀ c, c < k → dn c = true → ow c ≠ -1 → rzU ow far dn D (up1 u root (u root + D)) k (ow c).toNat = u (ow c).toNat + (D - far c)) ∧ (∀ i, i ≠ root → (∀ c, c < k → dn c = true → ow c ≠ (i : Int)) → rzU ow far dn D (up1 u root (u root + D)) k i = u i) := by
    intro k
    induction k with
    | zero =>
      intro _
      refine ⟨by unfold rzU up1; simp, fun c h => absurd h (by omega), fun i h _ => ?_⟩
      unfold rzU up1; rw [if_neg h]
    | succ k ih =>
      intro hk
      obtain ⟨h1, h2, h3⟩ := ih (by omega)
      unfold rzU
      by_cases h : dn k = true ∧ ow k ≠ -1
      · rw [if_pos h]
        obtain ⟨i, e1, hir⟩ := hown k (by omega) h.2
        have hkt : (ow k).toNat = i := by rw [e1]; simp
        have hfresh : rzU ow far dn D (up1 u root (u root + D)) k i = u i := h3 i (by omega) (fun c hc hd e2 => by
          have := ht.inj c k (by omega) (by omega) (by rw [e2, e1]) (by rw [e2]; omega)
          omega)
        rw [hkt, hfresh]
        refine ⟨?_, fun c hc hd ho => ?_, fun x hx hall => ?_⟩
        · unfold up1; rw [if_neg (by omega)]; exact h1
        · by_cases e : c = k
          · subst e; rw [hkt]; unfold up1; rw [if_pos rfl]
          · obtain ⟨ic, e2, _⟩ := hown c (by omega) ho
            have : ic ≠ i := fun e3 => e (ht.inj c k (by omega) (by omega) (by rw [e2, e1, e3]) ho)
            rw [show (ow c).toNat = ic by rw [e2]; simp]
            unfold up1; rw [if_neg this]
            have := h2 c (by omega) hd ho
            rw [show (ow c).toNat = ic by rw [e2]; simp] at this
            exact this
        · unfold up1
          rw [if_neg (fun e => hall k (by omega) h.1 (by rw [e1, e]))]
          exact h3 x hx (fun c hc => hall c (by omega))
      · rw [if_neg h]
        refine ⟨h1, fun c hc hd ho => ?_, fun x hx hall => h3 x hx (fun c hc => hall c (by omega))⟩
        by_cases e : c = k
        · subst e; exact absurd ⟨hd, ho⟩ h
        · exact h2 c (by omega) hd ho
  obtain ⟨h1, h2, h3⟩ := key n (Nat.le_refl _)
  refine ⟨h1, h2, fun i _ hr hall => h3 i hr hall, fun c hc hd ho => ?_, fun c _ h => ?_⟩
  · rw [rzV_at, if_pos ⟨hc, hd, ho⟩]
  · rw [rzV_at, if_neg (fun h2 => h h2.2)]
/- numbers stay small while they are raised -/
theorem rzU_bd {n : Nat} {C : Nat → Nat → Int} {u v ow : Nat → Int} {root : Nat} {far : Nat → Int} {dn : Nat → Bool} {D : Int} (ht : TInv n C u v ow root) (hD : 0 ≤ D ∧ D ≤ 2000000) (hf : ∀ c, c < n → dn c = true → 0 ≤ far c ∧ far c ≤ D) (hr : root < n) (hn : n ≤ 10) :
    ∀ k, k ≤ n → ∀ i, i < n → 0 ≤ rzU ow far dn D (up1 u root (u root + D)) k i ∧ rzU ow far dn D (up1 u root (u root + D)) k i ≤ 20000000 + (k + 1) * 2000000 := by
  intro k
  induction k with
  | zero =>
    intro _ i hi
    have h1 := ht.upos i hi
    have h2 := ht.ubd i hi
    have h3 : (root : Int) * 2000000 ≤ 20000000 := by omega
    unfold rzU up1
    split
    · rename_i e; rw [← e]; omega
    · omega
  | succ k ih =>
    intro hk i hi
    have h1 := ih (by omega) i hi
    rw [rzU]
    generalize rzU ow far dn D (up1 u root (u root + D)) k = U at *
    split
    · rename_i h
      unfold up1
      split
      · rename_i e
        have h2 := hf k (by omega) h.1
        rw [← e]; omega
      · omega
    · omega

/- give, column by column -/
structure GInv (n : Nat) (ow fr : Nat → Int) (dn : Nat → Bool) (ord : Nat → Nat) (e : Nat) (W : Nat → Prop) (j : Nat) (OW : Nat → Int) : Prop where
  jlt : j < n
  jw : ¬ W j
  gw : ∀ c, c < n → W c → ∃ d : Nat, d < n ∧ fr c = d ∧ OW c = ow d ∧ (W d ∨ d = j)
  gs : ∀ c, c < n → ¬ W c → OW c = ow c
  one : ∀ c d, c < n → d < n → W c → W d → fr c = fr d → c = d
  led : ∀ c, c < n → W c ∨ c = j → c ≠ e → ∃ d, d < n ∧ W d ∧ fr d = (c : Int)
  gd : ∀ c, c < n → W c ∨ c = j → (c = e ∨ ow c ≠ -1) ∧ dn c = true
  up : ∀ c, c < n → W c → ord j < ord c
  fro : ∀ c, c < n → W c → ∀ d : Nat, fr c = d → ord j ≤ ord d
theorem give_begin {n : Nat} {C : Nat → Nat → Int} {u v ow : Nat → Int} {root : Nat} {far fr : Nat → Int} {dn : Nat → Bool} {ord : Nat → Nat} {cnt e : Nat} (he : HEnd n C u v ow root far fr dn ord cnt e) : GInv n ow fr dn ord e (fun _ => False) e ow :=
  ⟨he.lt, fun h => h, fun _ _ h => h.elim, fun _ _ _ => rfl, fun _ _ _ _ h => h.elim, fun c _ h hne => by rcases h with h | h; exact h.elim; exact absurd h hne, fun c _ h => by
    rcases h with h | h
    · exact h.elim
    · rw [h]; exact ⟨.inl rfl, he.dne⟩, fun _ _ h => h.elim, fun _ _ h => h.elim⟩
/- where the column that leads on stands -/
theorem give_next {n : Nat} {C : Nat → Nat → Int} {u v ow : Nat → Int} {root : Nat} {far fr : Nat → Int} {dn : Nat → Bool} {ord : Nat → Nat} {cnt e j : Nat} {W : Nat → Prop} {OW : Nat → Int} (he : HEnd n C u v ow root far fr dn ord cnt e) (hg : GInv n ow fr dn ord e W j OW) (hf : fr j ≠ -1) :
    ∃ d : Nat, d < n ∧ fr j = d ∧ ord d < ord j ∧ GInv n ow fr dn ord e (fun c => W c ∨ c = j) d (up1 OW j (OW d)) := by
  have hjd := (hg.gd j hg.jlt (.inr rfl)).2
  rcases he.inv.way j hg.jlt (he.inv.known j hg.jlt hjd) with ⟨h1, _⟩ | ⟨d, hd, h1, h2, h3, _⟩
  · exact absurd h1 hf
  · have hlt := h3 hjd
    have hdw : ¬ W d := fun h => by have := hg.up d hd h; omega
    have hdj : d ≠ j := fun e2 => by rw [e2] at hlt; omega
    refine ⟨d, hd, h1, hlt, hd, ?_, fun c hc hw => ?_, fun c hc hw => ?_, fun c c' hc hc' hw hw' hf' => ?_, fun c hc hw hne => ?_, fun c hc hw => ?_, fun c hc hw => ?_, fun c hc hw x hx => ?_⟩
    · rintro (h | h)
      · exact hdw h
      · exact hdj h
    · rcases hw with hw | hw
      · obtain ⟨x, x1, x2, x3, x4⟩ := hg.gw c hc hw
        refine ⟨x, x1, x2, ?_, .inl x4⟩
        unfold up1; rw [if_neg (fun e2 => by rw [e2] at hw; exact hg.jw hw)]; exact x3
      · subst hw
        refine ⟨d, hd, h1, ?_, .inr rfl⟩
        unfold up1; rw [if_pos rfl]; exact hg.gs d hd hdw
    · unfold up1
      rw [if_neg (fun e2 => hw (.inr e2))]
      exact hg.gs c hc (fun h => hw (.inl h))
    · rcases hw with hw | hw <;> rcases hw' with hw' | hw'
      · exact hg.one c c' hc hc' hw hw' hf'
      · exfalso
        rw [hw', h1] at hf'
        have := hg.fro c hc hw d hf'
        omega
      · exfalso
        rw [hw, h1] at hf'
        have := hg.fro c' hc' hw' d hf'.symm
        omega
      · rw [hw, hw']
    · rcases hw with hw | hw
      · obtain ⟨x, x1, x2, x3⟩ := hg.led c hc hw hne
        exact ⟨x, x1, .inl x2, x3⟩
      · exact ⟨j, hg.jlt, .inr rfl, by rw [h1, hw]⟩
    · rcases hw with hw | hw
      · exact hg.gd c hc hw
      · rw [hw]; exact ⟨.inr (he.inv.sub d hd h2).2, h2.1⟩
    · rcases hw with hw | hw
      · have := hg.up c hc hw; omega
      · rw [hw]; exact hlt
    · rcases hw with hw | hw
      · have := hg.fro c hc hw x hx; omega
      · rw [hw, h1] at hx
        have : x = d := by omega
        rw [this]; omega
theorem give_end {n : Nat} {C : Nat → Nat → Int} {u v ow : Nat → Int} {root : Nat} {far fr : Nat → Int} {dn : Nat → Bool} {ord : Nat → Nat} {cnt e j : Nat} {W : Nat → Prop} {OW : Nat → Int} (_he : HEnd n C u v ow root far fr dn ord cnt e) (hg : GInv n ow fr dn ord e W j OW) (hf : fr j = -1) :
    Given n ow fr root e W j (up1 OW j (root : Int)) ∧ ∀ c, c < n → W c ∨ c = j → dn c = true := by
  refine ⟨⟨hg.jlt, hg.jw, hf, by unfold up1; simp, fun c hc hw => ?_, fun c hc hw hne => ?_, hg.one, hg.led, fun c hc hw => (hg.gd c hc hw).1⟩, fun c hc hw => (hg.gd c hc hw).2⟩
  · obtain ⟨x, x1, x2, x3, x4⟩ := hg.gw c hc hw
    refine ⟨x, x1, x2, ?_, x4⟩
    unfold up1; rw [if_neg (fun e2 => by rw [e2] at hw; exact hg.jw hw)]; exact x3
  · unfold up1; rw [if_neg hne]; exact hg.gs c hc hw
/- counting -/
theorem nodup_sub : ∀ (L M : List Nat), L.Nodup → (∀ x ∈ L, x ∈ M) → L.length ≤ M.length := by
  intro L
  induction L with
  | nil => intro M _ _; simp
  | cons a L ih =>
    intro M hd h
    have ha : a ∈ M := h a (by simp)
    have hd' := List.nodup_cons.1 hd
    have h1 := ih (M.erase a) hd'.2 (fun x hx => by
      have hne : x ≠ a := fun e => hd'.1 (e ▸ hx)
      exact (List.mem_erase_of_ne hne).2 (h x (by simp [hx])))
    rw [List.length_erase_of_mem ha] at h1
    have : 0 < M.length := List.length_pos_of_mem ha
    simp; omega
def sumL (f : Nat → Int) : List Nat → Int
  | [] => 0
  | x :: r => f x + sumL f r
theorem sumL_append (f : Nat → Int) (a b : List Nat) : sumL f (a ++ b) = sumL f a + sumL f b := by
  induction a with
  | nil => simp [sumL]
  | cons x a ih => simp only [List.cons_append, sumL, ih]; omega
theorem sumL_erase (f : Nat → Int) : ∀ (L : List Nat) (x : Nat), x ∈ L → sumL f L = f x + sumL f (L.erase x) := by
  intro L
  induction L with
  | nil => intro x h; cases h
  | cons a L ih =>
    intro x h
    by_cases e : a = x
    · subst e; simp [sumL]
    · have hx : x ∈ L := by
        rcases List.mem_cons.1 h with h | h
        · exact absurd h.symm e
        · exact h
      rw [List.erase_cons_tail (by simpa using e)]
      simp only [sumL]
      rw [ih x hx]; omega
theorem sumL_all (f : Nat → Int) : ∀ (n : Nat) (L : List Nat), L.Nodup → (∀ x ∈ L, x < n) → L.length = n → sumL f L = sumL f (List.range n) := by
  intro n
  induction n with
  | zero => intro L _ _ h; cases L with
    | nil => rfl
    | cons x r => simp at h
  | succ n ih =>
    intro L hd h hl
    have hn : n ∈ L := by
      apply Classical.byContradiction
      intro hno
      have h1 := nodup_sub L (List.range n) hd (fun x hx => by
        have := h x hx
        have : x ≠ n := fun e => hno (e ▸ hx)
        simp; omega)
      simp at h1; omega
    rw [sumL_erase f L n hn, List.range_succ, sumL_append, ih (L.erase n) (hd.erase n) (fun x hx => by
      have h2 := (hd.mem_erase_iff).1 hx
      have := h x h2.2
      have := h2.1
      omega) (by rw [List.length_erase_of_mem hn]; omega)]
    simp [sumL]; omega
theorem sumL_map (f : Nat → Int) (g : Nat → Nat) (L : List Nat) : sumL f (L.map g) = sumL (fun x => f (g x)) L := by
  induction L with
  | nil => rfl
  | cons x L ih => simp [sumL, ih]
theorem sumL_congr {f g : Nat → Int} {L : List Nat} (h : ∀ x ∈ L, f x = g x) : sumL f L = sumL g L := by
  induction L with
  | nil => rfl
  | cons x L ih => simp only [sumL]; rw [h x (by simp), ih (fun y hy => h y (by simp [hy]))]
theorem sumL_add (f g : Nat → Int) (L : List Nat) : sumL (fun x => f x + g x) L = sumL f L + sumL g L := by
  induction L with
  | nil => rfl
  | cons x L ih => simp only [sumL, ih]; omega
/- when all rows have columns, all columns have rows -/
theorem all_owned {n : Nat} {C : Nat → Nat → Int} {u v ow : Nat → Int} (ht : TInv n C u v ow n) : ∀ j, j < n → ∃ i : Nat, ow j = i ∧ i < n ∧ C i j ≠ -1 ∧ u i + v j = C i j := by
  intro j hj
  rcases ht.own j hj with h | h
  · exfalso
    have hch : ∀ i, ∃ c, i < n → c < n ∧ ow c = (i : Int) := fun i => by
      by_cases hi : i < n
      · obtain ⟨c, h1, h2⟩ := ht.all i hi; exact ⟨c, fun _ => ⟨h1, h2⟩⟩
      · exact ⟨0, fun h => absurd h hi⟩
    obtain ⟨g, hg⟩ := Classical.axiomOfChoice hch
    have hnd : (j :: (List.range n).map g).Nodup := by
      rw [List.nodup_cons]
      refine ⟨fun hm => ?_, ?_⟩
      · obtain ⟨i, hi, e⟩ := List.mem_map.1 hm
        have := (hg i (by simpa using hi)).2
        rw [e, h] at this; omega
      · rw [List.nodup_iff_pairwise_ne, List.pairwise_map]
        refine List.Pairwise.imp_of_mem ?_ (List.nodup_iff_pairwise_ne.1 List.nodup_range)
        intro a b ha hb hne e
        have h1 := (hg a (by simpa using ha)).2
        have h2 := (hg b (by simpa using hb)).2
        rw [e, h2] at h1
        exact hne (by omega)
    have := nodup_sub _ (List.range n) hnd (fun x hx => by
      rcases List.mem_cons.1 hx with h1 | h1
      · rw [h1]; simpa using hj
      · obtain ⟨i, hi, e⟩ := List.mem_map.1 h1
        rw [← e]; simpa using (hg i (by simpa using hi)).1)
    simp at this; omega
  · exact h
/- the columns of the rows, as they are written down -/
def colS (ow : Nat → Int) : Nat → Nat → Int
  | 0 => fun _ => 0
  | k + 1 => up1 (colS ow k) (ow k).toNat (k : Int)
def putS (ow x : Nat → Int) : Nat → Nat → Int
  | 0 => fun _ => 0
  | k + 1 => up1 (putS ow x k) (ow k).toNat (x (ow k).toNat)
theorem colS_at {n : Nat} {ow : Nat → Int} (hi : ∀ j, j < n → ∃ i : Nat, ow j = i) (hinj : ∀ j k, j < n → k < n → ow j = ow k → j = k) : ∀ k, k ≤ n → ∀ c, c < k → colS ow k (ow c).toNat = c := by
  intro k
  induction k with
  | zero => intro _ c h; omega
  | succ k ih =>
    intro hk c hc
    unfold colS up1
    by_cases e : c = k
    · rw [e, if_pos rfl]
    · obtain ⟨a, ha⟩ := hi c (by omega)
      obtain ⟨b, hb⟩ := hi k (by omega)
      rw [if_neg (fun h => e (hinj c k (by omega) (by omega) (by rw [ha, hb] at h ⊢; simp at h; rw [h])))]
      exact ih (by omega) c (by omega)
theorem putS_at (ow x : Nat → Int) : ∀ k c, c < k → putS ow x k (ow c).toNat = x (ow c).toNat := by
  intro k
  induction k with
  | zero => intro c h; omega
  | succ k ih =>
    intro c hc
    unfold putS up1
    by_cases e : (ow c).toNat = (ow k).toNat
    · rw [if_pos e, e]
    · rw [if_neg e]
      by_cases e2 : c = k
      · subst e2; exact absurd rfl e
      · exact ih c (by omega)
/- what the last table shows -/
structure Tight (n : Nat) (C : Nat → Nat → Int) (col u v : Nat → Int) (cost : Int) : Prop where
  tcol : ∀ i, i < n → ∃ k : Nat, col i = k ∧ k < n ∧ C i k ≠ -1
  one : ∀ i j, i < n → j < n → col i = col j → i = j
  under : ∀ i j, i < n → j < n → C i j ≠ -1 → u i + v j ≤ C i j
  tcost : cost = sumL (fun i => C i (col i).toNat) (List.range n)
  sum : cost = sumL (fun i => u i + v i) (List.range n)
  ubd : ∀ i, i < n → -100000000 ≤ u i ∧ u i ≤ 100000000
  vbd : ∀ i, i < n → -100000000 ≤ v i ∧ v i ≤ 100000000
theorem last_tight {n : Nat} {C : Nat → Nat → Int} {u v ow : Nat → Int} (hn : n ≤ 10) (ht : TInv n C u v ow n) : Tight n C (colS ow n) u v (sumL (fun c => C (ow c).toNat c) (List.range n)) ∧ (∀ i, i < n → putS ow u n i = u i) := by
  have ha := all_owned ht
  have hinj : ∀ j k, j < n → k < n → ow j = ow k → j = k := fun j k hj hk e => ht.inj j k hj hk e (by obtain ⟨i, h, _⟩ := ha j hj; rw [h]; omega)
  have hca := colS_at (fun j hj => by obtain ⟨i, h, _⟩ := ha j hj; exact ⟨i, h⟩) hinj n (Nat.le_refl _)
  have hrow : ∀ i, i < n → ∃ c, c < n ∧ ow c = (i : Int) := fun i hi => ht.all i hi
  have hcol : ∀ i, i < n → ∃ c, c < n ∧ ow c = (i : Int) ∧ colS ow n i = c := fun i hi => by
    obtain ⟨c, h1, h2⟩ := hrow i hi
    refine ⟨c, h1, h2, ?_⟩
    have := hca c h1
    rw [h2] at this; simpa using this
  have hnd : ((List.range n).map fun c => (ow c).toNat).Nodup := by
    rw [List.nodup_iff_pairwise_ne, List.pairwise_map]
    refine List.Pairwise.imp_of_mem ?_ (List.nodup_iff_pairwise_ne.1 List.nodup_range)
    intro a b ha' hb' hne e
    obtain ⟨x, hx, _⟩ := ha a (by simpa using ha')
    obtain ⟨y, hy, _⟩ := ha b (by simpa using hb')
    rw [hx, hy] at e
    simp at e
    exact hne (hinj a b (by simpa using ha') (by simpa using hb') (by rw [hx, hy, e]))
  have hperm : ∀ f : Nat → Int, sumL (fun c => f (ow c).toNat) (List.range n) = sumL f (List.range n) := fun f => by
    rw [← sumL_map f (fun c => (ow c).toNat)]
    refine sumL_all f n _ hnd (fun x hx => ?_) (by simp)
    obtain ⟨c, hc, e⟩ := List.mem_map.1 hx
    obtain ⟨i, h1, h2, _⟩ := ha c (by simpa using hc)
    rw [← e, h1]; simpa using h2
  refine ⟨⟨fun i hi => ?_, fun i j hi hj e => ?_, ht.under, ?_, ?_, fun i hi => ?_, fun j hj => ?_⟩, fun i hi => ?_⟩
  · obtain ⟨c, h1, h2, h3⟩ := hcol i hi
    obtain ⟨i', e1, _, h4, _⟩ := ha c h1
    have : i' = i := by rw [h2] at e1; omega
    exact ⟨c, h3, h1, by rw [← this]; exact h4⟩
  · obtain ⟨c, h1, h2, h3⟩ := hcol i hi
    obtain ⟨d, g1, g2, g3⟩ := hcol j hj
    rw [h3, g3] at e
    have : c = d := by omega
    rw [this, g2] at h2; omega
  · rw [← hperm (fun i => C i (colS ow n i).toNat)]
    refine sumL_congr fun c hc => ?_
    rw [hca c (by simpa using hc)]; simp
  · rw [sumL_add u v, ← hperm u, ← sumL_add]
    refine sumL_congr fun c hc => ?_
    obtain ⟨i, h1, _, _, h4⟩ := ha c (by simpa using hc)
    rw [h1]; simp only [Int.toNat_natCast]; omega
  · have := ht.upos i hi; have := ht.ubd i hi
    have : (n : Int) * 2000000 ≤ 20000000 := by omega
    omega
  · have := ht.vneg j hj; have := ht.vbd j hj
    have : (n : Int) * 2000000 ≤ 20000000 := by omega
    omega
  · obtain ⟨c, h1, h2⟩ := hrow i hi
    have := putS_at ow u n c h1
    rw [h2] at this; simpa using this
/- rows that have too few columns -/
structure Short (n : Nat) (C : Nat → Nat → Int) (S T : Nat → Bool) : Prop where
  open_ : ∀ i j, i < n → j < n → S i = true → C i j ≠ -1 → T j = true
  few : ((List.range n).filter T).length < ((List.range n).filter S).length
def shS (ow : Nat → Int) (dn : Nat → Bool) (root : Nat) : Nat → Nat → Bool
  | 0 => up1 (fun _ => false) root true
  | k + 1 => if dn k = true then up1 (shS ow dn root k) (ow k).toNat true else shS ow dn root k
theorem shS_at (ow : Nat → Int) (dn : Nat → Bool) (root : Nat) : ∀ k i, shS ow dn root k i = true ↔ i = root ∨ ∃ c, c < k ∧ dn c = true ∧ (ow c).toNat = i := by
  intro k
  induction k with
  | zero =>
    intro i
    unfold shS up1
    by_cases h : i = root
    · simp [h]
    · simp [h]
  | succ k ih =>
    intro i
    unfold shS
    by_cases hd : dn k = true
    · rw [if_pos hd]
      unfold up1
      by_cases e : i = (ow k).toNat
      · rw [if_pos e]
        exact ⟨fun _ => .inr ⟨k, by omega, hd, e.symm⟩, fun _ => rfl⟩
      · rw [if_neg e, ih i]
        constructor
        · rintro (h | ⟨c, h1, h2, h3⟩)
          · exact .inl h
          · exact .inr ⟨c, by omega, h2, h3⟩
        · rintro (h | ⟨c, h1, h2, h3⟩)
          · exact .inl h
          · refine .inr ⟨c, ?_, h2, h3⟩
            by_cases e2 : c = k
            · subst e2; exact absurd h3.symm e
            · omega
    · rw [if_neg hd, ih i]
      constructor
      · rintro (h | ⟨c, h1, h2, h3⟩)
        · exact .inl h
        · exact .inr ⟨c, by omega, h2, h3⟩
      · rintro (h | ⟨c, h1, h2, h3⟩)
        · exact .inl h
        · refine .inr ⟨c, ?_, h2, h3⟩
          by_cases e2 : c = k
          · subst e2; exact absurd h2 hd
          · omega
theorem hunt_short {n : Nat} {C : Nat → Nat → Int} {u v ow : Nat → Int} {root : Nat} {far fr : Nat → Int} {dn : Nat → Bool} {ord : Nat → Nat} {cnt : Nat} (ht : TInv n C u v ow root) (hr : root < n)
    (h : HInv n C u v ow root far fr dn ord cnt (fun c => dn c = true)) (hno : ∀ c, c < n → dn c = true ∨ far c = -1) : Short n C (shS ow dn root n) dn := by
  have hown : ∀ c, c < n → dn c = true → ∃ i : Nat, ow c = i ∧ i < root := fun c hc hd => by
    rcases ht.own c hc with h1 | ⟨i, h1, h2, _⟩
    · exact absurd h1 (h.sub c hc hd).2
    · exact ⟨i, h1, h2⟩
  refine ⟨fun i j hi hj hs hcell => ?_, ?_⟩
  · have hf : far j ≠ -1 := by
      rcases (shS_at ow dn root n i).1 hs with h1 | ⟨c, h1, h2, h3⟩
      · rw [h1] at hcell; exact (h.rootRow j hj hcell).1
      · rw [← h3] at hcell; exact (h.row c h1 h2 j hj hcell).1
    rcases hno j hj with h1 | h1
    · exact h1
    · exact absurd h1 hf
  · have hnd : (root :: ((List.range n).filter dn).map fun c => (ow c).toNat).Nodup := by
      rw [List.nodup_cons]
      refine ⟨fun hm => ?_, ?_⟩
      · obtain ⟨c, hc, e⟩ := List.mem_map.1 hm
        have hc2 := List.mem_filter.1 hc
        obtain ⟨i, h1, h2⟩ := hown c (by simpa using hc2.1) hc2.2
        rw [h1] at e; simp at e; omega
      · rw [List.nodup_iff_pairwise_ne, List.pairwise_map]
        refine List.Pairwise.imp_of_mem ?_ (List.Pairwise.filter _ (List.nodup_iff_pairwise_ne.1 List.nodup_range))
        intro a b ha hb hne e
        have ha2 := List.mem_filter.1 ha
        have hb2 := List.mem_filter.1 hb
        obtain ⟨x, hx, _⟩ := hown a (by simpa using ha2.1) ha2.2
        obtain ⟨y, hy, _⟩ := hown b (by simpa using hb2.1) hb2.2
        rw [hx, hy] at e
        simp at e
        exact hne (ht.inj a b (by simpa using ha2.1) (by simpa using hb2.1) (by rw [hx, hy, e]) (by rw [hx]; omega))
    have := nodup_sub _ ((List.range n).filter (shS ow dn root n)) hnd (fun x hx => by
      rcases List.mem_cons.1 hx with h1 | h1
      · rw [h1, List.mem_filter]; exact ⟨by simpa using hr, (shS_at ow dn root n root).2 (.inl rfl)⟩
      · obtain ⟨c, hc, e⟩ := List.mem_map.1 h1
        have hc2 := List.mem_filter.1 hc
        obtain ⟨i, h2, h3⟩ := hown c (by simpa using hc2.1) hc2.2
        rw [List.mem_filter]
        refine ⟨?_, (shS_at ow dn root n x).2 (.inr ⟨c, by simpa using hc2.1, hc2.2, e⟩)⟩
        rw [h2] at e; simp at e ⊢; omega)
    simp at this; omega
/- how many columns are done -/
def dnN (n : Nat) (dn : Nat → Bool) : Nat := ((List.range n).filter dn).length
theorem dnN_le (n : Nat) (dn : Nat → Bool) : dnN n dn ≤ n := by
  unfold dnN; have := List.length_filter_le dn (List.range n); simp at this; exact this
theorem dnN_up {n : Nat} {dn : Nat → Bool} {k : Nat} (hk : k < n) (hd : dn k = false) : dnN n (up1 dn k true) = dnN n dn + 1 := by
  unfold dnN
  have key : ∀ m, ((List.range m).filter (up1 dn k true)).length = ((List.range m).filter dn).length + (if k < m then 1 else 0) := by
    intro m
    induction m with
    | zero => simp
    | succ m ih =>
      rw [List.range_succ, List.filter_append, List.filter_append, List.length_append, List.length_append, ih]
      by_cases e : m = k
      · subst e
        have e1 : up1 dn m true m = true := by unfold up1; simp
        rw [if_neg (by omega), if_pos (by omega)]
        simp [e1, hd]
      · have e1 : up1 dn k true m = dn m := by unfold up1; rw [if_neg e]
        have e2 : (if k < m then 1 else 0) = (if k < m + 1 then 1 else 0 : Nat) := by
          by_cases h : k < m
          · rw [if_pos h, if_pos (by omega)]
          · rw [if_neg h, if_neg (by omega)]
        rw [e2]
        cases hm : dn m <;> simp [e1, hm] <;> omega
  rw [key n, if_pos hk]
end Go.Proofs.YtebinaopncclgabGreatDoor
