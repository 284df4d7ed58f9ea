/- Plain: the least sum over all sets of columns. -/
import Derived.Test.YtebinaopncclgaaGreatDoorAPlain
namespace Go.Proofs.YtebinaopncclgaaGreatDoor

/- sets of columns as numbers -/
def addB (s j : Nat) : Nat := s ||| 2 ^ j
theorem bit_add (s j i : Nat) : (addB s j).testBit i = (s.testBit i || decide (j = i)) := by
  unfold addB; rw [Nat.testBit_or, Nat.testBit_two_pow]
theorem add_up {s j : Nat} : (addB s j).testBit = up1 s.testBit j true := by
  funext i
  rw [bit_add]
  unfold up1
  by_cases h : i = j
  · rw [if_pos h]; simp [h]
  · rw [if_neg h]; simp [show ¬ j = i from fun e => h e.symm]
theorem add_lt {n s j : Nat} (hs : s < 2 ^ n) (hj : j < n) : addB s j < 2 ^ n := Nat.or_lt_two_pow hs (Nat.pow_lt_pow_right (by omega) hj)
theorem lt_add {s j : Nat} (h : s.testBit j = false) : s < addB s j := by
  have h1 : s ≤ addB s j := Nat.left_le_or
  have h2 : s ≠ addB s j := fun e => by
    have := bit_add s j j
    rw [← e, h] at this
    simp at this
  omega
/- how many columns a set has -/
def pcB (n s : Nat) : Nat := dnN n s.testBit
theorem pc_add {n s j : Nat} (hj : j < n) (h : s.testBit j = false) : pcB n (addB s j) = pcB n s + 1 := by
  unfold pcB; rw [add_up]; exact dnN_up hj h
theorem pc_zero (n : Nat) : pcB n 0 = 0 := by
  unfold pcB dnN
  have : (List.range n).filter (Nat.testBit 0) = [] := by
    rw [List.filter_eq_nil_iff]; intro a _; simp
  rw [this]; rfl
theorem pc_lt {n s j : Nat} (hj : j < n) (h : s.testBit j = false) : pcB n s < n := by
  have h1 := pc_add hj h
  have h2 : pcB n (addB s j) ≤ n := dnN_le n _
  omega
/- what every sum that is reached keeps to -/
structure Clo (n : Nat) (C : Nat → Nat → Int) (Φ : Nat → Int → Prop) : Prop where
  zero : Φ 0 0
  step : ∀ s j x, s < 2 ^ n → j < n → s.testBit j = false → C (pcB n s) j ≠ -1 → Φ s x → Φ (addB s j) (x + C (pcB n s) j)
/- the sum over a set -/
def sumB (n : Nat) (v : Nat → Int) (s : Nat) : Int := sumL (fun j => if s.testBit j = true then v j else 0) (List.range n)
theorem sumL_up (v : Nat → Int) (f : Nat → Bool) (j : Nat) (h : f j = false) (n : Nat) : sumL (fun i => if up1 f j true i = true then v i else 0) (List.range n) = sumL (fun i => if f i = true then v i else 0) (List.range n) + (if j < n then v j else 0) := by
  induction n with
  | zero => simp [sumL]
  | succ n ih =>
    rw [List.range_succ, sumL_append, sumL_append, ih]
    simp only [sumL]
    by_cases e : n = j
    · subst e
      rw [if_neg (Nat.lt_irrefl _), if_pos (Nat.lt_succ_self _)]
      have : up1 f n true n = true := by unfold up1; simp
      simp [this, h]
    · have : up1 f j true n = f n := by unfold up1; rw [if_neg e]
      rw [this]
      by_cases hj : j < n
      · rw [if_pos hj, if_pos (show j < n + 1 by omega)]; omega
      · rw [if_neg hj, if_neg (show ¬ j < n + 1 by omega)]; omega
theorem sumB_add {n s j : Nat} (v : Nat → Int) (hj : j < n) (h : s.testBit j = false) : sumB n v (addB s j) = sumB n v s + v j := by
  unfold sumB
  rw [add_up, sumL_up v s.testBit j h n, if_pos hj]
theorem clo_dual {n : Nat} {C : Nat → Nat → Int} {u v : Nat → Int} (h : ∀ i j, i < n → j < n → C i j ≠ -1 → u i + v j ≤ C i j) : Clo n C (fun s x => sumL u (List.range (pcB n s)) + sumB n v s ≤ x) := by
  refine ⟨?_, fun s j x hs hj hb hc hx => ?_⟩
  · rw [pc_zero]
    have : sumB n v 0 = 0 := by
      unfold sumB
      have : ∀ L : List Nat, sumL (fun j => if Nat.testBit 0 j = true then v j else 0) L = 0 := by
        intro L; induction L with
        | nil => rfl
        | cons x L ih => simp only [sumL, ih]; simp
      exact this _
    rw [this]; simp [sumL]
  · rw [pc_add hj hb, List.range_succ, sumL_append, sumB_add v hj hb]
    have h1 := h (pcB n s) j (pc_lt hj hb) hj hc
    simp only [sumL]
    omega
def cntB (n : Nat) (T : Nat → Bool) (s : Nat) : Nat := dnN n (fun j => s.testBit j && T j)
theorem clo_hall {n : Nat} {C : Nat → Nat → Int} {S T : Nat → Bool} (h : Short n C S T) : Clo n C (fun s _ => dnN (pcB n s) S ≤ cntB n T s) := by
  refine ⟨?_, fun s j x hs hj hb hc hx => ?_⟩
  · rw [pc_zero]; simp [dnN]
  · rw [pc_add hj hb]
    have hr := pc_lt hj hb
    have e1 : dnN (pcB n s + 1) S = dnN (pcB n s) S + (if S (pcB n s) = true then 1 else 0) := by
      unfold dnN
      rw [List.range_succ, List.filter_append, List.length_append]
      cases hS : S (pcB n s) <;> simp [hS]
    have e2 : T j = true → cntB n T (addB s j) = cntB n T s + 1 := fun ht => by
      unfold cntB
      have : (fun i => (addB s j).testBit i && T i) = up1 (fun i => s.testBit i && T i) j true := by
        funext i
        rw [add_up]
        unfold up1
        by_cases e : i = j
        · rw [if_pos e, if_pos e, e, ht]; rfl
        · rw [if_neg e, if_neg e]
      rw [this]
      exact dnN_up hj (by simp [hb])
    have e3 : T j = false → cntB n T (addB s j) = cntB n T s := fun ht => by
      unfold cntB
      congr 1
      funext i
      rw [add_up]
      unfold up1
      by_cases e : i = j
      · rw [if_pos e, e, ht]; simp
      · rw [if_neg e]
    rw [e1]
    cases hS : S (pcB n s)
    · simp only [Bool.false_eq_true, if_false]
      cases hT : T j
      · rw [e3 hT]; omega
      · rw [e2 hT]; omega
    · have hT := h.open_ (pcB n s) j hr hj hS hc
      rw [e2 hT]; simp; omega
/- the way of a choice of columns through the sets -/
def wayB (col : Nat → Int) : Nat → Nat
  | 0 => 0
  | k + 1 => addB (wayB col k) (col k).toNat
theorem way_bit (col : Nat → Int) : ∀ k j, (wayB col k).testBit j = true ↔ ∃ i, i < k ∧ (col i).toNat = j := by
  intro k
  induction k with
  | zero => intro j; simp [wayB]
  | succ k ih =>
    intro j
    unfold wayB
    rw [bit_add, Bool.or_eq_true, ih]
    constructor
    · rintro (⟨i, h1, h2⟩ | h)
      · exact ⟨i, by omega, h2⟩
      · exact ⟨k, by omega, by simpa using h⟩
    · rintro ⟨i, h1, h2⟩
      by_cases e : i = k
      · right; subst e; simpa using h2
      · left; exact ⟨i, by omega, h2⟩
theorem way_free {n : Nat} {C : Nat → Nat → Int} {col u v : Nat → Int} {cost : Int} (h : Tight n C col u v cost) {k : Nat} (hk : k < n) : (wayB col k).testBit (col k).toNat = false := by
  cases hb : (wayB col k).testBit (col k).toNat
  · rfl
  · obtain ⟨i, h1, h2⟩ := (way_bit col k _).1 hb
    obtain ⟨a, ha, _⟩ := h.tcol i (by omega)
    obtain ⟨b, hb', _⟩ := h.tcol k hk
    have := h.one i k (by omega) hk (by rw [ha, hb'] at h2 ⊢; simp at h2; rw [h2])
    omega
theorem way_pc {n : Nat} {C : Nat → Nat → Int} {col u v : Nat → Int} {cost : Int} (h : Tight n C col u v cost) : ∀ k, k ≤ n → pcB n (wayB col k) = k ∧ wayB col k < 2 ^ n := by
  intro k
  induction k with
  | zero => intro _; exact ⟨pc_zero n, Nat.two_pow_pos n⟩
  | succ k ih =>
    intro hk
    obtain ⟨h1, h2⟩ := ih (by omega)
    obtain ⟨a, ha, han, _⟩ := h.tcol k (by omega)
    have hf := way_free h (k := k) (by omega)
    have hj : (col k).toNat < n := by rw [ha]; simpa using han
    unfold wayB
    exact ⟨by rw [pc_add hj hf, h1], add_lt h2 hj⟩
theorem way_full {n : Nat} {C : Nat → Nat → Int} {col u v : Nat → Int} {cost : Int} (h : Tight n C col u v cost) : wayB col n = 2 ^ n - 1 := by
  have h1 := (way_pc h n (Nat.le_refl _)).1
  have h2 := (way_pc h n (Nat.le_refl _)).2
  apply Nat.eq_of_testBit_eq
  intro i
  rw [Nat.testBit_two_pow_sub_one]
  by_cases hi : i < n
  · rw [decide_eq_true hi]
    cases hb : (wayB col n).testBit i
    · have := pc_lt hi hb
      omega
    · rfl
  · rw [decide_eq_false hi]
    exact Nat.testBit_lt_two_pow (Nat.lt_of_lt_of_le h2 (Nat.pow_le_pow_right (by omega) (by omega)))
theorem full_pc (n : Nat) : pcB n (2 ^ n - 1) = n := by
  unfold pcB dnN
  have : (List.range n).filter (2 ^ n - 1).testBit = List.range n := by
    rw [List.filter_eq_self]
    intro a ha
    rw [Nat.testBit_two_pow_sub_one]; simpa using ha
  rw [this]; simp
/- what the table of least sums keeps to -/
structure LInv (n : Nat) (C : Nat → Nat → Int) (Φ : Nat → Int → Prop) (b : Nat → Int) : Prop where
  zero : b 0 = 0
  val : ∀ t, t < 2 ^ n → b t ≠ -1 → 0 ≤ b t ∧ Φ t (b t)
theorem linv_step {n : Nat} {C : Nat → Nat → Int} {Φ : Nat → Int → Prop} {b : Nat → Int} (hcl : Clo n C Φ) (hc : ∀ i j, i < n → j < n → C i j = -1 ∨ 0 ≤ C i j) (h : LInv n C Φ b) {s j : Nat} (hs : s < 2 ^ n) (hj : j < n) (hb : s.testBit j = false) (hbs : b s ≠ -1) (hC : C (pcB n s) j ≠ -1) :
    LInv n C Φ (up1 b (addB s j) (if b (addB s j) = -1 ∨ b s + C (pcB n s) j < b (addB s j) then b s + C (pcB n s) j else b (addB s j))) := by
  have hs2 := lt_add hb
  have hC0 : 0 ≤ C (pcB n s) j := by rcases hc _ j (pc_lt hj hb) hj with h1 | h1; exact absurd h1 hC; exact h1
  have hv := h.val s hs hbs
  refine ⟨?_, fun t ht hne => ?_⟩
  · unfold up1; rw [if_neg (by omega)]; exact h.zero
  · unfold up1 at hne ⊢
    by_cases e : t = addB s j
    · rw [if_pos e] at hne ⊢
      split
      · rw [e]; exact ⟨by omega, hcl.step s j _ hs hj hb hC hv.2⟩
      · rename_i h2
        rw [if_neg h2] at hne
        rw [e]; exact h.val _ (add_lt hs hj) hne
    · rw [if_neg e] at hne ⊢; exact h.val t ht hne
/- the choice of columns is gone along as far as the sets have been gone through -/
def LWay (n : Nat) (C : Nat → Nat → Int) (col : Nat → Int) (b : Nat → Int) (s q : Nat) : Prop :=
  ∀ k, k < n → wayB col k < s ∨ (wayB col k = s ∧ (col k).toNat < q) → b (wayB col (k + 1)) ≠ -1 ∧ b (wayB col (k + 1)) ≤ sumL (fun i => C i (col i).toNat) (List.range (k + 1))
theorem lway_begin (n : Nat) (C : Nat → Nat → Int) (col b : Nat → Int) : LWay n C col b 0 0 := fun k _ h => by
  rcases h with h | ⟨_, h⟩ <;> omega
theorem lway_mono {n : Nat} {C : Nat → Nat → Int} {col b b' : Nat → Int} {s q : Nat} (h : LWay n C col b s q) (hm : ∀ t, b t ≠ -1 → b' t ≠ -1 ∧ b' t ≤ b t) : LWay n C col b' s q := fun k hk hw => by
  have h1 := h k hk hw
  have h2 := hm _ h1.1
  exact ⟨h2.1, by omega⟩
theorem lway_next {n : Nat} {C : Nat → Nat → Int} {col u v b : Nat → Int} {cost : Int} (ht : Tight n C col u v cost) {s : Nat} (h : LWay n C col b s n) : LWay n C col b (s + 1) 0 := fun k hk hw => by
  refine h k hk ?_
  rcases hw with h1 | ⟨_, h1⟩
  · by_cases e : wayB col k = s
    · obtain ⟨a, ha, han, _⟩ := ht.tcol k hk
      exact .inr ⟨e, by rw [ha]; simpa using han⟩
    · exact .inl (by omega)
  · omega
theorem way_rise {n : Nat} {C : Nat → Nat → Int} {col u v : Nat → Int} {cost : Int} (ht : Tight n C col u v cost) {k : Nat} (hk : k < n) : wayB col k < wayB col (k + 1) := lt_add (way_free ht hk)
/- the sum by a set on the way is known when its turn comes -/
theorem lway_at {n : Nat} {C : Nat → Nat → Int} {col u v b : Nat → Int} {cost : Int} (ht : Tight n C col u v cost) (h0 : b 0 = 0) {s q k : Nat} (h : LWay n C col b s q) (hk : k ≤ n) (e : wayB col k = s) : b s ≠ -1 ∧ b s ≤ sumL (fun i => C i (col i).toNat) (List.range k) := by
  cases k with
  | zero => rw [← e]; show b 0 ≠ -1 ∧ b 0 ≤ _; rw [h0]; exact ⟨by omega, by simp [sumL]⟩
  | succ k =>
    have h1 := way_rise ht (k := k) (by omega)
    have h2 := h k (by omega) (.inl (by omega))
    rw [← e]; exact h2
theorem lway_step {n : Nat} {C : Nat → Nat → Int} {col u v b : Nat → Int} {cost : Int} (ht : Tight n C col u v cost) (h0 : b 0 = 0) {s q : Nat} (h : LWay n C col b s q) (_hq : q < n) {b' : Nat → Int} (hm : ∀ t, b t ≠ -1 → b' t ≠ -1 ∧ b' t ≤ b t)
    (hb : s.testBit q = false → b s ≠ -1 → C (pcB n s) q ≠ -1 → b' (addB s q) ≠ -1 ∧ b' (addB s q) ≤ b s + C (pcB n s) q) : LWay n C col b' s (q + 1) := fun k hk hw => by
  by_cases e : wayB col k = s ∧ (col k).toNat = q
  · obtain ⟨e1, e2⟩ := e
    have h1 := lway_at ht h0 h (by omega) e1
    have hf := way_free ht hk
    obtain ⟨a, ha, han, hao⟩ := ht.tcol k hk
    have hpc := (way_pc ht k (by omega)).1
    have e3 : wayB col (k + 1) = addB s q := by show addB (wayB col k) _ = _; rw [e1, e2]
    rw [e1, e2] at hf
    rw [e1] at hpc
    have h2 := hb hf h1.1 (by rw [hpc, ← e2, ha]; simpa using hao)
    rw [e3, List.range_succ, sumL_append]
    rw [hpc, ← e2] at h2
    rw [e2] at h2
    refine ⟨h2.1, ?_⟩
    have h3 := h2.2
    have h4 := h1.2
    simp only [sumL]
    rw [e2]; omega
  · have h1 := h k hk (by
      rcases hw with h2 | ⟨h2, h3⟩
      · exact .inl h2
      · refine .inr ⟨h2, ?_⟩
        by_cases h4 : (col k).toNat = q
        · exact absurd ⟨h2, h4⟩ e
        · omega)
    have h2 := hm _ h1.1
    exact ⟨h2.1, by omega⟩
/- so the last entry is the least sum -/
theorem lowest_tight {n : Nat} {C : Nat → Nat → Int} {col u v b : Nat → Int} {cost : Int} (ht : Tight n C col u v cost) (hi : LInv n C (fun s x => sumL u (List.range (pcB n s)) + sumB n v s ≤ x) b) (hw : LWay n C col b (2 ^ n) 0) : b (2 ^ n - 1) = cost := by
  have hp := Nat.two_pow_pos n
  have e := way_full ht
  have hup : b (2 ^ n - 1) ≠ -1 ∧ b (2 ^ n - 1) ≤ cost := by
    have h1 := lway_at ht hi.zero (s := 2 ^ n - 1) (q := n) (fun k hk h => hw k hk (by
      rcases h with h | ⟨h, _⟩
      · exact .inl (by omega)
      · exact .inl (by omega))) (Nat.le_refl n) e
    rw [ht.tcost]; exact h1
  have hlow := (hi.val (2 ^ n - 1) (by omega) hup.1).2
  rw [full_pc] at hlow
  have hs : sumB n v (2 ^ n - 1) = sumL v (List.range n) := by
    unfold sumB
    refine sumL_congr fun x hx => ?_
    rw [Nat.testBit_two_pow_sub_one, if_pos (by simpa using hx)]
  have h3 := ht.sum
  rw [sumL_add] at h3
  rw [hs] at hlow
  have := hup.2
  omega
theorem lowest_short {n : Nat} {C : Nat → Nat → Int} {S T : Nat → Bool} {b : Nat → Int} (h : Short n C S T) (hi : LInv n C (fun s _ => dnN (pcB n s) S ≤ cntB n T s) b) : b (2 ^ n - 1) = -1 := by
  apply Classical.byContradiction
  intro hne
  have hp := Nat.two_pow_pos n
  have h1 := (hi.val (2 ^ n - 1) (by omega) hne).2
  rw [full_pc] at h1
  have e : cntB n T (2 ^ n - 1) = dnN n T := by
    unfold cntB dnN
    congr 1
    apply List.filter_congr
    intro i hx
    rw [Nat.testBit_two_pow_sub_one, decide_eq_true (by simpa using hx)]; rfl
  rw [e] at h1
  have h2 := h.few
  unfold dnN at h1
  omega
end Go.Proofs.YtebinaopncclgaaGreatDoor
