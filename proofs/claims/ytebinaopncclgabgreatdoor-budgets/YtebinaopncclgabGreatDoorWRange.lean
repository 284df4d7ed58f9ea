/- Plain: no way is longer than eleven roads. -/
import Derived.Test.YtebinaopncclgabGreatDoorPlainK
import Derived.Test.YtebinaopncclgabGreatDoorOnZ
namespace Go.Proofs.YtebinaopncclgabGreatDoor

theorem count_grow (p q : Nat → Bool) (h : ∀ x, p x = true → q x = true) : ∀ L : List Nat, L.countP p ≤ L.countP q ∧ (L.countP p = L.countP q → ∀ x ∈ L, p x = q x) := by
  intro L
  induction L with
  | nil => exact ⟨Nat.le_refl _, fun _ x hx => absurd hx (by simp)⟩
  | cons y L ih =>
    have hy := h y
    rw [List.countP_cons, List.countP_cons]
    cases hp : p y <;> cases hq : q y
    · simp only [Bool.false_eq_true, if_false, Nat.add_zero]
      refine ⟨ih.1, fun e x hx => ?_⟩
      rcases List.mem_cons.1 hx with rfl | hx
      · rw [hp, hq]
      · exact ih.2 e x hx
    · simp only [Bool.false_eq_true, if_false, if_true, Nat.add_zero]
      exact ⟨by have := ih.1; omega, fun e => by have := ih.1; omega⟩
    · rw [hp, hq] at hy; exact absurd (hy rfl) (by simp)
    · simp only [if_true]
      refine ⟨by have := ih.1; omega, fun e x hx => ?_⟩
      rcases List.mem_cons.1 hx with rfl | hx
      · rw [hp, hq]
      · exact ih.2 (by omega) x hx
theorem grow_stop (c : Nat → Nat) (m : Nat) (h0 : 1 ≤ c 0) (hm : ∀ k, c k ≤ c (k + 1)) (hb : ∀ k, c k ≤ m) : ∃ k, k < m ∧ c k = c (k + 1) := by
  false_or_by_contra
  rename_i hno
  have key : ∀ k, k ≤ m → k + 1 ≤ c k := by
    intro k
    induction k with
    | zero => intro _; exact h0
    | succ k ih =>
      intro hk
      have h1 := ih (by omega)
      have h2 := hm k
      have h3 : c k ≠ c (k + 1) := fun e => hno ⟨k, by omega, e⟩
      omega
  have := key m (Nat.le_refl _)
  have := hb m
  omega
theorem fw_short {N : Nat} {F : Nat → Nat → Int} (h : Lens N 10000 F) (hN : N ≤ 12) {a b : Nat} (ha : a < N) (hb : b < N) : fwF F N a b ≤ 110000 := by
  have hl := fw_lens12 h hN (Nat.le_refl N)
  have htri := fw_tri h hN N (Nat.le_refl _)
  have hle := fw_le h hN N (Nat.le_refl _)
  let E := fun x => ex (fwF F N a x)
  let S : Nat → Nat → Bool := fun k x => decide (E x ≤ (k : Int) * 10000)
  obtain ⟨k, hk, hc⟩ := grow_stop (fun k => (List.range N).countP (S k)) N
    (by
      apply List.countP_pos_iff.2
      refine ⟨a, by simpa using ha, ?_⟩
      have h0 : fwF F N a a = 0 := hl.1 a ha
      show decide (ex (fwF F N a a) ≤ ((0 : Nat) : Int) * 10000) = true
      rw [h0]; decide)
    (fun k => (count_grow (S k) (S (k + 1)) (fun x hx => by
      have h1 : E x ≤ (k : Int) * 10000 := by simpa [S] using hx
      show decide _ = true
      rw [decide_eq_true_eq]; push_cast; omega) _).1)
    (fun k => by have := List.countP_le_length (p := S k) (l := List.range N); simpa using this)
  have hsame := (count_grow (S k) (S (k + 1)) (fun x hx => by
      have h1 : E x ≤ (k : Int) * 10000 := by simpa [S] using hx
      show decide _ = true
      rw [decide_eq_true_eq]; push_cast; omega) (List.range N)).2 hc
  have hin : ∀ x, x < N → E x ≤ ((k + 1 : Nat) : Int) * 10000 → E x ≤ (k : Int) * 10000 := fun x hx h1 => by
    have h2 := hsame x (by simpa using hx)
    have h3 : S (k + 1) x = true := by show decide _ = true; rw [decide_eq_true_eq]; exact h1
    rw [h3] at h2
    simpa [S] using h2
  have hcl : ∀ x y, x < N → y < N → E x ≤ (k : Int) * 10000 → ¬ E y ≤ (k : Int) * 10000 → F x y = -1 := fun x y hx hy h1 h2 => by
    false_or_by_contra
    rename_i hne
    have h3 := h.2 x y hx hy
    have h4 := htri a y x ha hy hx
    have h5 := hle x y hx hy
    have h6 : ex (F x y) = F x y := by unfold ex; rw [if_neg hne]
    have h7 : E y ≤ E x + ex (fwF F N x y) := h4
    apply h2
    apply hin y hy
    push_cast
    omega
  have hbase := h.2
  let M : Nat → Nat → Int := fun x y => if E x ≤ (k : Int) * 10000 ∧ ¬ E y ≤ (k : Int) * 10000 then 1000000000 else 0
  have hg := fw_greatest (M := M) h hN (fun x y c _ _ _ => by
      show M x y ≤ M x c + M c y
      dsimp only [M]
      by_cases h1 : E x ≤ (k : Int) * 10000 <;> by_cases h2 : E y ≤ (k : Int) * 10000 <;> by_cases h3 : E c ≤ (k : Int) * 10000 <;> simp [h1, h2, h3])
    (fun x y hx hy => by
      show M x y ≤ _
      dsimp only [M]
      split
      · rename_i hh
        rw [hcl x y hx hy hh.1 hh.2]; decide
      · exact (ex_range (h.2 x y hx hy) (by decide)).1)
  by_cases hab : E b ≤ (k : Int) * 10000
  · have h1 := hl.2 a b ha hb
    have h2 := ex_range h1 (by decide)
    by_cases e : fwF F N a b = -1
    · omega
    · have h3 := h2.2.2.1 e
      have h4 : E b = fwF F N a b := h3
      omega
  · have h1 := hg N (Nat.le_refl _) a b ha hb
    have h2 : M a b = 1000000000 := by
      dsimp only [M]
      have h0 : fwF F N a a = 0 := hl.1 a ha
      have : E a = 0 := by show ex (fwF F N a a) = 0; rw [h0]; rfl
      rw [if_pos ⟨by rw [this]; omega, hab⟩]
    rw [h2] at h1
    have h3 := hl.2 a b ha hb
    by_cases e : fwF F N a b = -1
    · omega
    · have := (ex_range h3 (by decide)).2.2.1 e
      omega
theorem site_short {r : Rd} (h : RdOk r) : ∀ a b, a < r.stops.length + 1 → b < r.stops.length + 1 → -1 ≤ siteD r a b ∧ siteD r a b ≤ 110000 := by
  intro a b ha hb
  have hhd := headOk_iff.1 h.head
  obtain ⟨N, hN⟩ : ∃ N : Nat, r.nodes = N := ⟨r.nodes.toNat, by omega⟩
  have h1 := siteN_lt h hN ha
  have h2 := siteN_lt h hN hb
  exact ⟨(way_range h (by omega) (by omega)).1, fw_short (ok_lens h) (ok_nodes h).2 (by omega) (by omega)⟩
end Go.Proofs.YtebinaopncclgabGreatDoor
