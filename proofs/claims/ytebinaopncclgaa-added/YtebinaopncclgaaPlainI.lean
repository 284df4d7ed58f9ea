/- Plain mathematics of the seat: least ways with one road more. No program in sight. -/
import Derived.Test.YtebinaopncclgaaBetw
namespace Go.Proofs.Ytebinaopncclgaa
open Go.RowKit

/- no way, as a great number -/
def ex (x : Int) : Int := if x = -1 then 1000000000 else x
theorem ex_range {x M : Int} (h : -1 ≤ x ∧ x ≤ M) (hM : M ≤ 100000000) : 0 ≤ ex x ∧ ex x ≤ 1000000000 ∧ (x ≠ -1 → ex x = x) ∧ (x = -1 → ex x = 1000000000) := by
  unfold ex; split
  · exact ⟨by omega, by omega, fun h => absurd ‹_› h, fun _ => rfl⟩
  · exact ⟨by omega, by omega, fun _ => rfl, fun h => absurd h ‹_›⟩
theorem ex_inj {x y : Int} (hx : -1 ≤ x ∧ x ≤ 100000000) (hy : -1 ≤ y ∧ y ≤ 100000000) (h : ex x = ex y) : x = y := by
  unfold ex at h; split at h <;> split at h <;> omega

/- the triangle's law -/
def Tri (N : Nat) (E : Nat → Nat → Int) : Prop := ∀ a b c, a < N → b < N → c < N → E a b ≤ E a c + E c b
theorem ex_gF {N v x y : Nat} {F : Nat → Nat → Int} (h : Lens N 40960000 F) (hv : v < N) (hx : x < N) (hy : y < N) :
    ex (gF v F x y) = min (ex (F x y)) (ex (F x v) + ex (F v y)) := by
  have a := h.2 x y hx hy; have b := h.2 x v hx hv; have c := h.2 v y hv hy
  have ea := ex_range a (by omega); have eb := ex_range b (by omega); have ec := ex_range c (by omega)
  unfold gF
  by_cases h1 : F x v ≠ -1 ∧ F v y ≠ -1
  · rw [if_pos h1]
    have e1 := eb.2.2.1 h1.1; have e2 := ec.2.2.1 h1.2
    unfold shortS
    by_cases h2 : F x y = -1
    · rw [if_pos (Or.inl h2), ea.2.2.2 h2, e1, e2]; unfold ex; rw [if_neg (by omega)]; omega
    · have e3 := ea.2.2.1 h2
      by_cases h3 : F x v + F v y < F x y
      · rw [if_pos (Or.inr h3), e1, e2, e3]; unfold ex; rw [if_neg (by omega)]; omega
      · rw [if_neg (by omega), e1, e2, e3]; omega
  · rw [if_neg h1]
    by_cases h2 : F x v = -1
    · have := eb.2.2.2 h2; omega
    · have h3 : F v y = -1 := by
        by_cases h4 : F v y = -1
        · exact h4
        · exact absurd ⟨h2, h4⟩ h1
      have := ec.2.2.2 h3; omega

/- through the nodes below v -/
def TriTo (N v : Nat) (E : Nat → Nat → Int) : Prop := ∀ a b c, a < N → b < N → c < v → E a b ≤ E a c + E c b
theorem fw_tri {N : Nat} {F : Nat → Nat → Int} (h : Lens N 10000 F) (hN : N ≤ 12) : ∀ v, v ≤ N → TriTo N v (fun x y => ex (fwF F v x y)) := by
  intro v
  induction v with
  | zero => intro _ a b c _ _ hc; omega
  | succ v ih =>
    intro hv a b c ha hb hc
    have hL := fw_lens12 h hN (show v ≤ N by omega)
    have I := ih (by omega)
    have hvN : v < N := by omega
    have g : ∀ x y, x < N → y < N → ex (fwF F (v + 1) x y) = min (ex (fwF F v x y)) (ex (fwF F v x v) + ex (fwF F v v y)) := fun x y hx hy => ex_gF hL hvN hx hy
    have pos : ∀ x y, x < N → y < N → 0 ≤ ex (fwF F v x y) := fun x y hx hy => (ex_range (hL.2 x y hx hy) (by omega)).1
    have hcN : c < N := by omega
    dsimp only
    rw [g a b ha hb, g a c ha hcN, g c b hcN hb]
    have hvv : ex (fwF F v v v) = 0 := by rw [hL.1 v hvN]; rfl
    by_cases hcv : c = v
    · subst hcv; rw [hvv]
      have := pos a c ha hcN; have := pos c b hcN hb
      omega
    · have hc' : c < v := by omega
      have i1 := I a b c ha hb hc'
      have i2 := I v b c hvN hb hc'
      have i3 := I a v c ha hvN hc'
      dsimp only at i1 i2 i3
      have p1 := pos v c hvN hcN; have p2 := pos c v hcN hvN; have p3 := pos a c ha hcN; have p4 := pos c b hcN hb; have p5 := pos a v ha hvN; have p6 := pos v b hvN hb
      omega
theorem fw_le {N : Nat} {F : Nat → Nat → Int} (h : Lens N 10000 F) (hN : N ≤ 12) : ∀ v, v ≤ N → ∀ x y, x < N → y < N → ex (fwF F v x y) ≤ ex (F x y) := by
  intro v
  induction v with
  | zero => intro _ x y _ _; exact Int.le_refl _
  | succ v ih =>
    intro hv x y hx hy
    have hL := fw_lens12 h hN (show v ≤ N by omega)
    have := ih (by omega) x y hx hy
    have g : ex (fwF F (v + 1) x y) = min (ex (fwF F v x y)) (ex (fwF F v x v) + ex (fwF F v v y)) := ex_gF hL (by omega) hx hy
    omega
/- whatever keeps the triangle's law and is not above F is not above the least ways -/
theorem fw_greatest {N : Nat} {F : Nat → Nat → Int} {M : Nat → Nat → Int} (h : Lens N 10000 F) (hN : N ≤ 12) (hT : Tri N M) (hM : ∀ x y, x < N → y < N → M x y ≤ ex (F x y)) :
    ∀ v, v ≤ N → ∀ x y, x < N → y < N → M x y ≤ ex (fwF F v x y) := by
  intro v
  induction v with
  | zero => intro _ x y hx hy; exact hM x y hx hy
  | succ v ih =>
    intro hv x y hx hy
    have hL := fw_lens12 h hN (show v ≤ N by omega)
    have hvN : v < N := by omega
    have g : ex (fwF F (v + 1) x y) = min (ex (fwF F v x y)) (ex (fwF F v x v) + ex (fwF F v v y)) := ex_gF hL hvN hx hy
    have i1 := ih (by omega) x y hx hy
    have i2 := ih (by omega) x v hx hvN
    have i3 := ih (by omega) v y hvN hy
    have t := hT x y v hx hy hvN
    omega
/- one road more -/
theorem fw_road {N p q : Nat} {F F' : Nat → Nat → Int} {l : Int} (h : Lens N 10000 F) (h' : Lens N 10000 F') (hN : N ≤ 12) (hp : p < N) (hq : q < N) (hl : 0 ≤ l ∧ l ≤ 10000)
    (hF : ∀ x y, x < N → y < N → ex (F' x y) = if x = p ∧ y = q then min (ex (F x y)) l else ex (F x y)) :
    ∀ x y, x < N → y < N → ex (fwF F' N x y) = min (ex (fwF F N x y)) (ex (fwF F N x p) + l + ex (fwF F N q y)) := by
  intro x y hx hy
  have hL := fw_lens12 h hN (Nat.le_refl N)
  have hL' := fw_lens12 h' hN (Nat.le_refl N)
  have T := fw_tri h hN N (Nat.le_refl _)
  have T' := fw_tri h' hN N (Nat.le_refl _)
  have pos : ∀ x y, x < N → y < N → 0 ≤ ex (fwF F N x y) := fun x y hx hy => (ex_range (hL.2 x y hx hy) (by omega)).1
  -- not below
  have low : min (ex (fwF F N x y)) (ex (fwF F N x p) + l + ex (fwF F N q y)) ≤ ex (fwF F' N x y) := by
    refine fw_greatest (M := fun x y => min (ex (fwF F N x y)) (ex (fwF F N x p) + l + ex (fwF F N q y))) h' hN ?_ ?_ N (Nat.le_refl _) x y hx hy
    · intro a b c ha hb hc
      have t1 := T a b c ha hb hc; have t2 := T a p c ha hp hc; have t3 := T q b c hq hb hc
      dsimp only at t1 t2 t3 ⊢
      have p1 := pos q c hq hc; have p2 := pos c p hc hp; have p3 := pos a c ha hc; have p4 := pos c b hc hb; have p5 := pos a p ha hp; have p6 := pos q b hq hb
      omega
    · intro a b ha hb
      rw [hF a b ha hb]
      have f := fw_le h hN N (Nat.le_refl _) a b ha hb
      split
      · rename_i e
        have e1 := e.1; have e2 := e.2
        subst e1; subst e2
        have z1 : ex (fwF F N a a) = 0 := by rw [hL.1 a ha]; rfl
        have z2 : ex (fwF F N b b) = 0 := by rw [hL.1 b hb]; rfl
        omega
      · omega
  -- not above
  have up1 : ex (fwF F' N x y) ≤ ex (fwF F N x y) := by
    refine fw_greatest (M := fun x y => ex (fwF F' N x y)) h hN (fun a b c ha hb hc => T' a b c ha hb hc) (fun a b ha hb => ?_) N (Nat.le_refl _) x y hx hy
    have f := fw_le h' hN N (Nat.le_refl _) a b ha hb
    rw [hF a b ha hb] at f
    split at f <;> omega
  have up2 : ∀ a b, a < N → b < N → ex (fwF F' N a b) ≤ ex (fwF F N a b) := by
    intro a b ha hb
    refine fw_greatest (M := fun x y => ex (fwF F' N x y)) h hN (fun a b c ha hb hc => T' a b c ha hb hc) (fun a b ha hb => ?_) N (Nat.le_refl _) a b ha hb
    have f := fw_le h' hN N (Nat.le_refl _) a b ha hb
    rw [hF a b ha hb] at f
    split at f <;> omega
  have f := fw_le h' hN N (Nat.le_refl _) p q hp hq
  rw [hF p q hp hq, if_pos ⟨rfl, rfl⟩] at f
  have t1 := T' x y p hx hy hp
  have t2 := T' p y q hp hy hq
  dsimp only at t1 t2
  have u1 := up2 x p hx hp
  have u2 := up2 q y hq hy
  omega
/- no roads: the diagonal alone -/
theorem fw_none {N : Nat} (hN : N ≤ 12) : ∀ x y, x < N → y < N → fwF diagS N x y = diagS x y := by
  intro x y hx hy
  have h := diag_lens N
  have hL := fw_lens12 h hN (Nat.le_refl N)
  have e1 := fw_le h hN N (Nat.le_refl _) x y hx hy
  have e2 : ex (diagS x y) ≤ ex (fwF diagS N x y) := by
    refine fw_greatest (M := fun x y => ex (diagS x y)) h hN ?_ (fun _ _ _ _ => Int.le_refl _) N (Nat.le_refl _) x y hx hy
    intro a b c _ _ _
    dsimp only
    have d : ∀ a b : Nat, ex (diagS a b) = if a = b then 0 else 1000000000 := by
      intro a b; unfold diagS ex; by_cases e : a = b <;> simp [e]
    rw [d, d, d]
    by_cases h1 : a = b
    · rw [if_pos h1]; split <;> split <;> omega
    · rw [if_neg h1]
      by_cases h2 : a = c
      · rw [if_pos h2, if_neg (by omega)]; omega
      · rw [if_neg h2]; split <;> omega
  refine ex_inj ?_ ?_ (by omega)
  · have := hL.2 x y hx hy; omega
  · have := h.2 x y hx hy; omega
end Go.Proofs.Ytebinaopncclgaa
