/- Plain: the text of a tree. No program in sight. -/
import Derived.Test.YtebinaopncclgabGreatDoorPlainE
namespace Go.Proofs.YtebinaopncclgabGreatDoor
open Go.RowKit

/- splitting, from the left -/
def splitR (c : UInt8) : List UInt8 → List (List UInt8)
  | [] => [[]]
  | x :: t => if x = c then [] :: splitR c t else match splitR c t with | [] => [[x]] | p :: ps => (x :: p) :: ps
theorem splitR_cons (c x : UInt8) (t : List UInt8) : splitR c (x :: t) = if x = c then [] :: splitR c t else match splitR c t with | [] => [[x]] | p :: ps => (x :: p) :: ps := rfl
theorem splitR_ne (c : UInt8) (l : List UInt8) : splitR c l ≠ [] := by
  cases l with
  | nil => simp [splitR]
  | cons x t =>
    rw [splitR_cons]
    split
    · simp
    · split <;> simp
theorem split_go (c : UInt8) (l : List UInt8) : ∀ P C, (l.foldl (stepL c) (P, C)).1 ++ [(l.foldl (stepL c) (P, C)).2] = P ++ (match splitR c l with | [] => [C] | p :: ps => (C ++ p) :: ps) := by
  induction l with
  | nil => intro P C; simp [splitR]
  | cons x t ih =>
    intro P C
    rw [List.foldl_cons, splitR_cons]
    by_cases h : x = c
    · have e : stepL c (P, C) x = (P ++ [C], []) := by unfold stepL; rw [if_pos h]
      rw [e, ih (P ++ [C]) []]
      have hne := splitR_ne c t
      rw [if_pos h]
      cases hs : splitR c t with
      | nil => exact absurd hs hne
      | cons p ps => simp
    · have e : stepL c (P, C) x = (P, C ++ [x]) := by unfold stepL; rw [if_neg h]
      rw [e, ih P (C ++ [x])]
      have hne := splitR_ne c t
      rw [if_neg h]
      cases hs : splitR c t with
      | nil => exact absurd hs hne
      | cons p ps => simp
theorem split_R (c : UInt8) (l : List UInt8) : splitB c l = splitR c l := by
  have h := split_go c l [] []
  unfold splitB spl
  rw [h]
  have hne := splitR_ne c l
  cases hs : splitR c l with
  | nil => exact absurd hs hne
  | cons p ps => simp
theorem splitR_none {c : UInt8} {a : List UInt8} (h : c ∉ a) : splitR c a = [a] := by
  induction a with
  | nil => rfl
  | cons x t ih =>
    have h1 : x ≠ c := fun e => h (by simp [e])
    rw [splitR_cons, if_neg h1, ih (fun e => h (by simp [e]))]
theorem splitR_at {c : UInt8} {a b : List UInt8} (h : c ∉ a) : splitR c (a ++ c :: b) = a :: splitR c b := by
  induction a with
  | nil => show splitR c (c :: b) = _; rw [splitR_cons, if_pos rfl]
  | cons x t ih =>
    have h1 : x ≠ c := fun e => h (by simp [e])
    show splitR c (x :: (t ++ c :: b)) = _
    rw [splitR_cons, if_neg h1, ih (fun e => h (by simp [e]))]

/- digits and numbers -/
theorem digs_iff (l : List UInt8) : digs l = true ↔ ∀ c ∈ l, 48 ≤ c.toNat ∧ c.toNat ≤ 57 := by
  unfold digs
  rw [List.all_eq_true]
  constructor
  · intro h c hc
    have := h c hc
    simp only [Bool.and_eq_true, decide_eq_true_eq, UInt8.le_iff_toNat_le] at this
    exact this
  · intro h c hc
    have := h c hc
    simp only [Bool.and_eq_true, decide_eq_true_eq, UInt8.le_iff_toNat_le]
    exact this
theorem dgT_nat (n : Nat) : (dg n).toNat = 48 + n % 10 := by
  unfold dg
  rw [UInt8.toNat_ofNat']
  omega
theorem dcF_digs (f : Nat) : ∀ n, digs (decF f n) = true := by
  induction f with
  | zero => intro n; rw [digs_iff]; intro c hc; simp only [decF, List.mem_singleton] at hc; subst hc; rw [dgT_nat]; omega
  | succ f ih =>
    intro n
    by_cases h : 9 < n
    · rw [decF_step h, digs_iff]
      intro c hc
      rcases List.mem_append.1 hc with h1 | h1
      · exact (digs_iff _).1 (ih _) c h1
      · simp only [List.mem_singleton] at h1; subst h1; rw [dgT_nat]; omega
    · rw [decF_low (by omega), digs_iff]
      intro c hc; simp only [List.mem_singleton] at hc; subst hc; rw [dgT_nat]; omega
theorem decF_ne (f n : Nat) : decF f n ≠ [] := by
  cases f with
  | zero => simp [decF]
  | succ f =>
    by_cases h : 9 < n
    · rw [decF_step h]; simp
    · rw [decF_low (by omega)]; simp
theorem decF_back (f : Nat) : ∀ n, n < 10 ^ (f + 1) → val (decF f n) = n := by
  induction f with
  | zero =>
    intro n h
    have hd := dgT_nat n
    have h10 : n < 10 := by simpa using h
    simp only [decF, val, List.foldl_cons, List.foldl_nil]
    omega
  | succ f ih =>
    intro n h
    by_cases h9 : 9 < n
    · rw [decF_step h9, val_snoc, ih (n / 10) (by rw [Nat.pow_succ] at h; omega), dgT_nat]; omega
    · rw [decF_low (by omega)]
      have hd := dgT_nat n
      simp only [val, List.foldl_cons, List.foldl_nil]; omega
theorem decF_head (f : Nat) : ∀ n, n < 10 ^ (f + 1) → (decF f n).head? ≠ some 48 ∨ decF f n = [48] := by
  induction f with
  | zero =>
    intro n h
    by_cases e : dg n = 48
    · right; simp [decF, e]
    · left; simp [decF, e]
  | succ f ih =>
    intro n h
    by_cases h9 : 9 < n
    · left
      rw [decF_step h9]
      have h1 := ih (n / 10) (by rw [Nat.pow_succ] at h; omega)
      have hne := decF_ne f (n / 10)
      have hv := decF_back f (n / 10) (by rw [Nat.pow_succ] at h; omega)
      rw [List.head?_append]
      rcases h1 with h1 | h1
      · cases hh : (decF f (n / 10)).head? with
        | none => exact absurd (List.head?_eq_none_iff.1 hh) hne
        | some x => rw [hh] at h1; simpa using h1
      · rw [h1] at hv
        have : val [48] = 0 := by decide
        omega
    · rw [decF_low (by omega)]
      by_cases e : dg n = 48
      · right; rw [e]
      · left; simp [e]
theorem dg_of {c : UInt8} (v : Nat) (h : 48 ≤ c.toNat ∧ c.toNat ≤ 57) : dg (10 * v + (c.toNat - 48)) = c := by
  apply UInt8.toNat_inj.1
  rw [dgT_nat]; omega
theorem val_pos {d : List UInt8} (h : digs d = true) (hne : d ≠ []) (hh : d.head? ≠ some 48) : 1 ≤ val d := by
  cases d with
  | nil => exact absurd rfl hne
  | cons c t =>
    have hc := (digs_iff _).1 h c (by simp)
    have hc2 : c.toNat ≠ 48 := fun e => hh (by
      have : c = 48 := UInt8.toNat_inj.1 e
      simp [this])
    have hgo : ∀ (l : List UInt8) (a : Nat), 1 ≤ a → 1 ≤ l.foldl (fun n c => 10 * n + (c.toNat - 48)) a := by
      intro l
      induction l with
      | nil => intro a ha; simpa using ha
      | cons x l ih => intro a ha; rw [List.foldl_cons]; exact ih _ (by omega)
    unfold val
    rw [List.foldl_cons]
    exact hgo t _ (by omega)
theorem dcF_val : ∀ (f : Nat) (d : List UInt8), d.length ≤ f + 1 → digs d = true → d ≠ [] → (d.head? ≠ some 48 ∨ d = [48]) → decF f (val d) = d := by
  intro f
  induction f with
  | zero =>
    intro d hl hd hne _
    match d, hl, hne with
    | [c], _, _ =>
      have hc := (digs_iff _).1 hd c (by simp)
      have : val [c] = 10 * 0 + (c.toNat - 48) := by simp [val]
      rw [this]
      show [dg _] = _
      rw [dg_of 0 hc]
  | succ f ih =>
    intro d hl hd hne hh
    obtain ⟨a, c, rfl⟩ : ∃ a c, d = a ++ [c] := ⟨d.dropLast, d.getLast hne, (List.dropLast_concat_getLast hne).symm⟩
    have hc := (digs_iff _).1 hd c (by simp)
    have hda : digs a = true := (digs_iff _).2 fun x hx => (digs_iff _).1 hd x (by simp [hx])
    rw [val_snoc]
    by_cases ha : a = []
    · subst ha
      have e0 : val [] = 0 := rfl
      rw [e0, decF_low (by omega), dg_of 0 hc]; rfl
    · have hha : a.head? ≠ some 48 := by
        cases a with
        | nil => exact absurd rfl ha
        | cons x t =>
          rcases hh with h | h
          · simpa using h
          · have := congrArg List.length h; simp at this
      have hp := val_pos hda ha hha
      rw [decF_step (by omega), dg_of _ hc]
      have e : (10 * val a + (c.toNat - 48)) / 10 = val a := by omega
      rw [e, ih a (by simp at hl; omega) hda ha (.inl hha)]

def natT (d : List UInt8) : Option Nat := if d ≠ [] ∧ digs d = true ∧ d.length ≤ 9 ∧ (d.head? ≠ some 48 ∨ d = [48]) ∧ val d ≤ 100000000 then some (val d) else none
def numT : List UInt8 → Option Int
  | [] => none
  | c :: r => if c = 45 then (match natT r with | some n => if n = 0 then none else some (-(n : Int)) | none => none) else (match natT (c :: r) with | some n => some (n : Int) | none => none)
theorem numT_cons (c : UInt8) (r : List UInt8) : numT (c :: r) = if c = 45 then (match natT r with | some n => if n = 0 then none else some (-(n : Int)) | none => none) else (match natT (c :: r) with | some n => some (n : Int) | none => none) := rfl
def decT (z : Int) : List UInt8 := if z < 0 then 45 :: decF 9 (-z).toNat else decF 9 z.toNat
theorem natT_some {d : List UInt8} {n : Nat} (h : natT d = some n) : d = decF 9 n ∧ n ≤ 100000000 ∧ d.length ≤ 9 := by
  unfold natT at h
  split at h
  · rename_i hh
    obtain ⟨h1, h2, h3, h4, h5⟩ := hh
    cases h
    exact ⟨(dcF_val 9 d (by omega) h2 h1 h4).symm, h5, h3⟩
  · cases h
theorem decF_len9 {n : Nat} (h : n ≤ 100000000) : (decF 9 n).length ≤ 9 := by
  have key : ∀ f n, n < 10 ^ (f + 1) → ∀ g, (decF (f + g) n).length ≤ f + 1 := by
    intro f
    induction f with
    | zero => intro n h g; rw [decF_low (by simp at h; omega)]; simp
    | succ f ih =>
      intro n h g
      by_cases h9 : 9 < n
      · rw [show f + 1 + g = (f + g) + 1 by omega, decF_step h9, List.length_append]
        have := ih (n / 10) (by rw [Nat.pow_succ] at h; omega) g
        simp; omega
      · rw [decF_low (by omega)]; simp
  exact key 8 n (by omega) 1
theorem natT_dec {n : Nat} (h : n ≤ 100000000) : natT (decF 9 n) = some n := by
  unfold natT
  have hv := decF_back 9 n (by omega)
  rw [if_pos ⟨decF_ne 9 n, dcF_digs 9 n, decF_len9 h, decF_head 9 n (by omega), by rw [hv]; exact h⟩, hv]
theorem decF_not45 (f n : Nat) : (45 : UInt8) ∉ decF f n := fun h => by
  have := (digs_iff _).1 (dcF_digs f n) _ h
  simp at this
theorem numT_dec {z : Int} (h1 : -100000000 ≤ z) (h2 : z ≤ 100000000) : numT (decT z) = some z := by
  unfold decT
  by_cases h : z < 0
  · rw [if_pos h]
    rw [numT_cons, if_pos rfl, natT_dec (by omega)]
    simp only
    rw [if_neg (by omega)]
    congr 1; omega
  · rw [if_neg h]
    cases hd : decF 9 z.toNat with
    | nil => exact absurd hd (decF_ne _ _)
    | cons c r =>
      have hc : c ≠ 45 := fun e => decF_not45 9 z.toNat (by rw [hd, e]; simp)
      rw [numT_cons, if_neg hc, ← hd, natT_dec (by omega)]
      simp only
      congr 1; omega
theorem numT_some {w : List UInt8} {z : Int} (h : numT w = some z) : w = decT z ∧ -100000000 ≤ z ∧ z ≤ 100000000 := by
  cases w with
  | nil => cases h
  | cons c r =>
    rw [numT_cons] at h
    by_cases hc : c = 45
    · rw [if_pos hc] at h
      cases hn : natT r with
      | none => rw [hn] at h; cases h
      | some n =>
        rw [hn] at h
        simp only at h
        by_cases h0 : n = 0
        · rw [if_pos h0] at h; cases h
        · rw [if_neg h0] at h
          cases h
          have := natT_some hn
          refine ⟨?_, by omega, by omega⟩
          unfold decT
          rw [if_pos (by omega), hc, this.1]
          congr 2; omega
    · rw [if_neg hc] at h
      cases hn : natT (c :: r) with
      | none => rw [hn] at h; cases h
      | some n =>
        rw [hn] at h
        cases h
        have := natT_some hn
        refine ⟨?_, by omega, by omega⟩
        unfold decT
        rw [if_neg (by omega), this.1]
        congr 1
theorem decT_len {z : Int} (h1 : -100000000 ≤ z) (h2 : z ≤ 100000000) : (decT z).length ≤ 10 ∧ 1 ≤ (decT z).length := by
  unfold decT
  split
  · have := decF_len9 (n := (-z).toNat) (by omega)
    simp; omega
  · have := decF_len9 (n := z.toNat) (by omega)
    have h := decF_ne 9 z.toNat
    have : 1 ≤ (decF 9 z.toNat).length := by
      cases hd : decF 9 z.toNat with
      | nil => exact absurd hd h
      | cons => simp
    omega
theorem decT_mem {z : Int} {c : UInt8} (h : c ∈ decT z) : c = 45 ∨ (48 ≤ c.toNat ∧ c.toNat ≤ 57) := by
  unfold decT at h
  split at h
  · rcases List.mem_cons.1 h with h | h
    · exact .inl h
    · exact .inr ((digs_iff _).1 (dcF_digs _ _) c h)
  · exact .inr ((digs_iff _).1 (dcF_digs _ _) c h)

/- nodes -/
abbrev NodeT := Int × List Int
def kindT (p : List UInt8) : Int := if p = [98] then 1 else if p = [100] then 2 else if p = [104] then 3 else if p = [99] then 4 else 0
def letT (k : Int) : UInt8 := if k = 1 then 98 else if k = 2 then 100 else if k = 3 then 104 else 99
def cntT (k : Int) (n : Nat) : Bool := if k = 1 then n == 2 else if k = 2 then (n % 2 == 0 && decide (0 < n) && decide (n ≤ 20)) else if k = 3 then (decide (0 < n) && decide (n ≤ 10)) else if k = 4 then (decide (0 < n) && decide (n ≤ 9)) else false
def numsT : List (List UInt8) → Option (List Int)
  | [] => some []
  | p :: ps => match numT p with | none => none | some z => match numsT ps with | none => none | some zs => some (z :: zs)
theorem numsT_cons (p : List UInt8) (ps : List (List UInt8)) : numsT (p :: ps) = match numT p with | none => none | some z => match numsT ps with | none => none | some zs => some (z :: zs) := rfl
def nodeT (line : List UInt8) : Option NodeT :=
  match splitR 32 line with
  | [] => none
  | p :: ps => match numsT ps with | none => none | some zs => if cntT (kindT p) zs.length = true then some (kindT p, zs) else none
def nextT (o : Nat) (k : Int) : Nat := if k = 1 then o + 1 else o - 1
def goT : Nat → List NodeT → List (List UInt8) → List NodeT × Nat × Int
  | _, acc, [] => ([], acc.length + 1, 14)
  | o, acc, [l] => if l = [] ∧ o = 0 then (acc, 0, 0) else ([], acc.length + 1, 14)
  | o, acc, l :: l' :: t => if o = 0 then ([], acc.length + 1, 14) else match nodeT l with | none => ([], acc.length + 1, 14) | some nd => goT (nextT o nd.1) (acc ++ [nd]) (l' :: t)
theorem goT_one (o : Nat) (acc : List NodeT) (l : List UInt8) : goT o acc [l] = if l = [] ∧ o = 0 then (acc, 0, 0) else ([], acc.length + 1, 14) := rfl
theorem goT_two (o : Nat) (acc : List NodeT) (l l' : List UInt8) (t : List (List UInt8)) : goT o acc (l :: l' :: t) = if o = 0 then ([], acc.length + 1, 14) else match nodeT l with | none => ([], acc.length + 1, 14) | some nd => goT (nextT o nd.1) (acc ++ [nd]) (l' :: t) := rfl
def readT (text : List UInt8) : List NodeT × Nat × Int := goT 1 [] (splitR 10 text)
def nodeOkT (nd : NodeT) : Bool := cntT nd.1 nd.2.length && nd.2.all fun z => decide (-100000000 ≤ z) && decide (z ≤ 100000000)
def treeT : Nat → List NodeT → Bool
  | o, [] => o == 0
  | o, nd :: t => o != 0 && nodeOkT nd && treeT (nextT o nd.1) t
def bodyT (nd : NodeT) : List UInt8 := letT nd.1 :: (nd.2.map fun z => 32 :: decT z).flatten
def lineT (nd : NodeT) : List UInt8 := bodyT nd ++ [10]
def textT (l : List NodeT) : List UInt8 := (l.map lineT).flatten
def writeT (l : List NodeT) : List UInt8 × Int := if treeT 1 l = true then (textT l, 0) else ([], 14)

theorem cntT_kind {k : Int} {n : Nat} (h : cntT k n = true) : (k = 1 ∧ n = 2) ∨ (k = 2 ∧ n % 2 = 0 ∧ 0 < n ∧ n ≤ 20) ∨ (k = 3 ∧ 0 < n ∧ n ≤ 10) ∨ (k = 4 ∧ 0 < n ∧ n ≤ 9) := by
  unfold cntT at h
  split at h
  · left; simp at h; omega
  · split at h
    · right; left; simp at h; omega
    · split at h
      · right; right; left; simp at h; omega
      · split at h
        · right; right; right; simp at h; omega
        · cases h
theorem numsT_some : ∀ {ps : List (List UInt8)} {zs : List Int}, numsT ps = some zs → zs.length = ps.length ∧ ∀ z ∈ zs, -100000000 ≤ z ∧ z ≤ 100000000 := by
  intro ps
  induction ps with
  | nil => intro zs h; cases h; exact ⟨rfl, fun z hz => by cases hz⟩
  | cons p ps ih =>
    intro zs h
    rw [numsT_cons] at h
    cases h1 : numT p with
    | none => rw [h1] at h; cases h
    | some z =>
      rw [h1] at h
      simp only at h
      cases h2 : numsT ps with
      | none => rw [h2] at h; cases h
      | some zs' =>
        rw [h2] at h
        cases h
        have h3 := ih h2
        have h4 := numT_some h1
        refine ⟨by simp [h3.1], fun y hy => ?_⟩
        rcases List.mem_cons.1 hy with e | e
        · rw [e]; exact h4.2
        · exact h3.2 y e
theorem nodeT_ok {l : List UInt8} {nd : NodeT} (h : nodeT l = some nd) : nodeOkT nd = true := by
  unfold nodeT at h
  split at h
  · cases h
  · rename_i p ps _
    split at h
    · cases h
    · rename_i zs hz
      split at h
      · rename_i hc
        cases h
        unfold nodeOkT
        have := (numsT_some hz).2
        rw [hc, Bool.true_and, List.all_eq_true]
        intro z hm
        have := this z hm
        simp; omega
      · cases h
theorem goT_ok : ∀ (ls : List (List UInt8)) (o : Nat) (acc : List NodeT), (goT o acc ls).2.2 = 0 → ∃ m, (goT o acc ls).1 = acc ++ m ∧ (goT o acc ls).2.1 = 0 ∧ treeT o m = true := by
  intro ls
  induction ls with
  | nil => intro o acc h; exact absurd h (by simp [goT])
  | cons l t ih =>
    intro o acc h
    cases t with
    | nil =>
      rw [goT_one] at h ⊢
      by_cases hh : l = [] ∧ o = 0
      · rw [if_pos hh]; exact ⟨[], by simp, rfl, by simp [treeT, hh.2]⟩
      · rw [if_neg hh] at h; exact absurd h (by simp)
    | cons l' t =>
      rw [goT_two] at h ⊢
      by_cases h0 : o = 0
      · rw [if_pos h0] at h; exact absurd h (by simp)
      · rw [if_neg h0] at h ⊢
        cases hn : nodeT l with
        | none => rw [hn] at h; exact absurd h (by simp)
        | some nd =>
          rw [hn] at h
          simp only at h ⊢
          obtain ⟨m, h1, h2, h3⟩ := ih _ _ h
          refine ⟨nd :: m, by rw [h1]; simp, h2, ?_⟩
          unfold treeT
          rw [nodeT_ok hn, h3]; simp [h0]
theorem readT_ok {s : List UInt8} (h : (readT s).2.2 = 0) : treeT 1 (readT s).1 = true ∧ (readT s).2.1 = 0 := by
  obtain ⟨m, h1, h2, h3⟩ := goT_ok _ _ _ h
  unfold readT
  rw [h1, h2]; exact ⟨by simpa using h3, rfl⟩
theorem goT_count : ∀ (ls : List (List UInt8)) (o : Nat) (acc : List NodeT), (goT o acc ls).1.length ≤ acc.length + ls.length := by
  intro ls
  induction ls with
  | nil => intro o acc; simp [goT]
  | cons l t ih =>
    intro o acc
    cases t with
    | nil => rw [goT_one]; split <;> simp
    | cons l' t =>
      rw [goT_two]
      split
      · simp
      · split
        · simp
        · rename_i nd _
          have := ih (nextT o nd.1) (acc ++ [nd])
          simp at this ⊢; omega

/- what is written is read -/
theorem kind_let {k : Int} {n : Nat} (h : cntT k n = true) : kindT [letT k] = k ∧ letT k ≠ 32 ∧ letT k ≠ 10 := by
  rcases cntT_kind h with h | h | h | h <;> (rw [h.1]; decide)
theorem words_split (a : UInt8) (ha : a ≠ 32) (zs : List Int) : splitR 32 (a :: (zs.map fun z => 32 :: decT z).flatten) = [a] :: zs.map decT := by
  have h0 : ∀ z : Int, (32 : UInt8) ∉ decT z := fun z hz => by
    rcases decT_mem hz with h | h
    · revert h; decide
    · simp at h
  have key : ∀ (zs : List Int) (p : List UInt8), (32 : UInt8) ∉ p → splitR 32 (p ++ (zs.map fun z => 32 :: decT z).flatten) = p :: zs.map decT := by
    intro zs
    induction zs with
    | nil => intro p hp; simpa using splitR_none hp
    | cons z zs ih =>
      intro p hp
      simp only [List.map_cons, List.flatten_cons, List.cons_append]
      rw [splitR_at hp, ih _ (h0 z)]
  have := key zs [a] (by simpa using fun e => ha e.symm)
  simpa using this
theorem nums_dec : ∀ {zs : List Int}, (∀ z ∈ zs, -100000000 ≤ z ∧ z ≤ 100000000) → numsT (zs.map decT) = some zs := by
  intro zs
  induction zs with
  | nil => intro _; rfl
  | cons z zs ih =>
    intro h
    rw [List.map_cons, numsT_cons]
    have := h z (by simp)
    rw [numT_dec this.1 this.2, ih fun y hy => h y (by simp [hy])]
theorem nodeOk_parts {nd : NodeT} (h : nodeOkT nd = true) : cntT nd.1 nd.2.length = true ∧ ∀ z ∈ nd.2, -100000000 ≤ z ∧ z ≤ 100000000 := by
  unfold nodeOkT at h
  rw [Bool.and_eq_true, List.all_eq_true] at h
  exact ⟨h.1, fun z hz => by have := h.2 z hz; simpa using this⟩
theorem node_body {nd : NodeT} (h : nodeOkT nd = true) : nodeT (bodyT nd) = some nd := by
  obtain ⟨h1, h2⟩ := nodeOk_parts h
  obtain ⟨k1, k2, _⟩ := kind_let h1
  unfold nodeT bodyT
  rw [words_split _ k2]
  simp only
  rw [nums_dec h2]
  simp only
  rw [k1, if_pos h1]
theorem body_line {nd : NodeT} (h : nodeOkT nd = true) : (10 : UInt8) ∉ bodyT nd := by
  obtain ⟨h1, h2⟩ := nodeOk_parts h
  obtain ⟨_, _, k3⟩ := kind_let h1
  unfold bodyT
  intro hm
  rcases List.mem_cons.1 hm with e | e
  · exact k3 e.symm
  · obtain ⟨l, hl, hc⟩ := List.mem_flatten.1 e
    obtain ⟨z, _, rfl⟩ := List.mem_map.1 hl
    rcases List.mem_cons.1 hc with e | e
    · revert e; decide
    · rcases decT_mem e with h | h
      · revert h; decide
      · simp at h
theorem go_text : ∀ (l : List NodeT) (o : Nat) (acc : List NodeT), treeT o l = true → goT o acc (splitR 10 (textT l)) = (acc ++ l, 0, 0) := by
  intro l
  induction l with
  | nil =>
    intro o acc h
    simp only [textT, List.map_nil, List.flatten_nil, splitR]
    unfold treeT at h
    rw [goT_one, if_pos ⟨rfl, by simpa using h⟩]; simp
  | cons nd l ih =>
    intro o acc h
    unfold treeT at h
    simp only [Bool.and_eq_true, bne_iff_ne] at h
    have e : textT (nd :: l) = bodyT nd ++ 10 :: textT l := by simp [textT, lineT]
    rw [e, splitR_at (body_line h.1.2)]
    have hne := splitR_ne 10 (textT l)
    cases hs : splitR 10 (textT l) with
    | nil => exact absurd hs hne
    | cons p ps =>
      rw [goT_two, if_neg h.1.1, node_body h.1.2]
      simp only
      rw [← hs, ih _ _ h.2]; simp
theorem read_write {l : List NodeT} (h : treeT 1 l = true) : readT (textT l) = (l, 0, 0) := by
  unfold readT; rw [go_text l 1 [] h]; rfl
end Go.Proofs.YtebinaopncclgabGreatDoor
