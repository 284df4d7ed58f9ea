/- Walks: what a hunt and its end are is told by the table alone. -/
import Derived.Test.YtebinaopncclgabGreatDoorAPlain
namespace Go.Proofs.YtebinaopncclgabGreatDoor


def fillS (x : Int) (f : Nat → Int) (k : Nat) : Nat → Int := fun c => if c < k then x else f c
theorem fill_zero (x : Int) (f : Nat → Int) : fillS x f 0 = f := by funext c; unfold fillS; rw [if_neg (by omega)]
theorem fill_succ (x : Int) (f : Nat → Int) (k : Nat) : up1 (fillS x f k) k x = fillS x f (k + 1) := by
  funext c
  unfold up1 fillS
  by_cases e : c = k
  · rw [if_pos e, if_pos (by omega)]
  · rw [if_neg e]
    by_cases h : c < k
    · rw [if_pos h, if_pos (by omega)]
    · rw [if_neg h, if_neg (by omega)]
inductive RchR (n : Nat) (C : Nat → Nat → Int) (u v ow : Nat → Int) : (Nat → Int) → (Nat → Int) → (Nat → Bool) → (Nat → Int) → (Nat → Int) → (Nat → Bool) → Int → Prop where
  | no {far fr : Nat → Int} {dn : Nat → Bool} : nearS n far dn = -1 → RchR n C u v ow far fr dn far fr dn (-1)
  | hit {far fr : Nat → Int} {dn : Nat → Bool} {c : Nat} : nearS n far dn = (c : Int) → ow c = -1 → RchR n C u v ow far fr dn far fr (up1 dn c true) (c : Int)
  | more {far fr far' fr' : Nat → Int} {dn dn' : Nat → Bool} {e : Int} {c : Nat} : nearS n far dn = (c : Int) → ow c ≠ -1 → RchR n C u v ow (spFar n C u v (ow c).toNat (far c) far (up1 dn c true)) (spFr n C u v (ow c).toNat c (far c) far fr (up1 dn c true)) (up1 dn c true) far' fr' dn' e → RchR n C u v ow far fr dn far' fr' dn' e
theorem RchR.one {n : Nat} {C : Nat → Nat → Int} {u v ow far fr a b : Nat → Int} {dn d : Nat → Bool} {e : Int} (h : RchR n C u v ow far fr dn a b d e) : ∀ {a' b' : Nat → Int} {d' : Nat → Bool} {e' : Int}, RchR n C u v ow far fr dn a' b' d' e' → a = a' ∧ b = b' ∧ d = d' ∧ e = e' := by
  induction h with
  | no h1 =>
    intro a' b' d' e' h2
    cases h2 with
    | no _ => exact ⟨rfl, rfl, rfl, rfl⟩
    | hit h3 _ => rw [h1] at h3; omega
    | more h3 _ _ => rw [h1] at h3; omega
  | hit h1 h1' =>
    intro a' b' d' e' h2
    cases h2 with
    | no h3 => rw [h1] at h3; omega
    | hit h3 _ => rw [h1] at h3; cases Int.ofNat.inj h3; exact ⟨rfl, rfl, rfl, rfl⟩
    | more h3 h4 _ => rw [h1] at h3; cases Int.ofNat.inj h3; exact absurd h1' h4
  | more h1 h1' _ ih =>
    intro a' b' d' e' h2
    cases h2 with
    | no h3 => rw [h1] at h3; omega
    | hit h3 h4 => rw [h1] at h3; cases Int.ofNat.inj h3; exact absurd h4 h1'
    | more h3 _ h5 => rw [h1] at h3; cases Int.ofNat.inj h3; exact ih h5
inductive GiveR (root : Nat) (fr : Nat → Int) : (Nat → Int) → Nat → (Nat → Int) → Prop where
  | last {ow : Nat → Int} {c : Nat} : fr c = -1 → GiveR root fr ow c (up1 ow c root)
  | more {ow res : Nat → Int} {c d : Nat} : fr c = (d : Int) → GiveR root fr (up1 ow c (ow d)) d res → GiveR root fr ow c res
theorem GiveR.one {root : Nat} {fr ow a : Nat → Int} {c : Nat} (h : GiveR root fr ow c a) : ∀ {a' : Nat → Int}, GiveR root fr ow c a' → a = a' := by
  induction h with
  | last h1 =>
    intro a' h2
    cases h2 with
    | last _ => rfl
    | more h3 _ => rw [h1] at h3; omega
  | more h1 _ ih =>
    intro a' h2
    cases h2 with
    | last h3 => rw [h1] at h3; omega
    | more h3 h4 => rw [h1] at h3; cases Int.ofNat.inj h3; exact ih h4
structure ResB where
  whole : Bool
  cost : Int
  col : Nat → Int
  u : Nat → Int
  v : Nat → Int
  S : Nat → Bool
def huntFar (n : Nat) (C : Nat → Nat → Int) (u v : Nat → Int) (root : Nat) : Nat → Int := spFar n C u v root 0 (fillS (-1) (fun _ => 0) n) (fun _ => false)
def huntFr (n : Nat) (C : Nat → Nat → Int) (u v : Nat → Int) (root : Nat) : Nat → Int := spFr n C u v root (-1) 0 (fillS (-1) (fun _ => 0) n) (fun _ => 0) (fun _ => false)
inductive BestR (n : Nat) (C : Nat → Nat → Int) : Nat → (Nat → Int) → (Nat → Int) → (Nat → Int) → ResB → Prop where
  | done {u v ow : Nat → Int} : BestR n C n u v ow ⟨true, sumL (fun c => C (ow c).toNat c) (List.range n), colS ow n, u, v, fun _ => false⟩
  | short {k : Nat} {u v ow far fr : Nat → Int} {dn : Nat → Bool} : k < n → RchR n C u v ow (huntFar n C u v k) (huntFr n C u v k) (fun _ => false) far fr dn (-1) → BestR n C k u v ow ⟨false, 0, fun _ => 0, fun _ => 0, fun _ => 0, shS ow dn k n⟩
  | more {k c : Nat} {u v ow ow' far fr : Nat → Int} {dn : Nat → Bool} {res : ResB} : k < n → RchR n C u v ow (huntFar n C u v k) (huntFr n C u v k) (fun _ => false) far fr dn (c : Int) → GiveR k fr ow c ow' → BestR n C (k + 1) (rzU ow far dn (far c) (up1 u k (u k + far c)) n) (rzV ow far dn (far c) v n) ow' res → BestR n C k u v ow res
theorem BestR.one {n k : Nat} {C : Nat → Nat → Int} {u v ow : Nat → Int} {a : ResB} (h : BestR n C k u v ow a) : ∀ {b : ResB}, BestR n C k u v ow b → a = b := by
  induction h with
  | done =>
    intro b h2
    cases h2 with
    | done => rfl
    | short h3 _ => omega
    | more h3 _ _ _ => omega
  | short h1 h1' =>
    intro b h2
    cases h2 with
    | done => omega
    | short _ h3 => obtain ⟨_, _, rfl, _⟩ := h1'.one h3; rfl
    | more _ h3 _ _ => have := (h1'.one h3).2.2.2; omega
  | more h1 h1' h1'' _ ih =>
    intro b h2
    cases h2 with
    | done => omega
    | short _ h3 => have := (h1'.one h3).2.2.2; omega
    | more _ h3 h4 h5 =>
      obtain ⟨rfl, rfl, rfl, e⟩ := h1'.one h3
      cases Int.ofNat.inj e
      cases h1''.one h4
      exact ih h5
def bestStart (n : Nat) (C : Nat → Nat → Int) (x : ResB) : Prop := BestR n C 0 (fun _ => 0) (fun _ => 0) (fillS (-1) (fun _ => 0) n) x
open Classical in
noncomputable def bestF (n : Nat) (C : Nat → Nat → Int) : ResB := if h : ∃ x, bestStart n C x then Classical.choose h else ⟨false, 0, fun _ => 0, fun _ => 0, fun _ => 0, fun _ => false⟩
theorem bestF_of {n : Nat} {C : Nat → Nat → Int} {x : ResB} (h : bestStart n C x) : bestF n C = x := by
  unfold bestF
  rw [dif_pos ⟨x, h⟩]
  exact (Classical.choose_spec (⟨x, h⟩ : ∃ x, bestStart n C x)).one h
end Go.Proofs.YtebinaopncclgabGreatDoor
