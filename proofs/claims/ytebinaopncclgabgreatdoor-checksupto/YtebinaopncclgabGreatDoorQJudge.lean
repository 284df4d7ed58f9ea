/- Plain: plans that are judged, as lists of routes. -/
import Derived.Test.YtebinaopncclgabGreatDoorJArea
import Derived.Test.YtebinaopncclgabGreatDoorDPlain
import Derived.Test.YtebinaopncclgabGreatDoorSMatch
namespace Go.Proofs.YtebinaopncclgabGreatDoor

def insOf (r : Rd) (D : Nat → Nat → Int) : Ins := ⟨r.stops.length, r.vans.toNat, r.load, r.close, D, fun s => stopV r s 1, fun s => stopV r s 2, fun s => stopV r s 3, fun s => stopV r s 4⟩
theorem stopV_ok {r : Rd} (h : RdOk r) {s : Nat} (h1 : 1 ≤ s) (h2 : s ≤ r.stops.length) : 0 ≤ stopV r s 1 ∧ 0 ≤ stopV r s 2 ∧ stopV r s 2 ≤ stopV r s 3 ∧ 0 ≤ stopV r s 4 ∧ stopV r s 1 ≤ 10000 ∧ stopV r s 3 ≤ 10000 ∧ stopV r s 4 ≤ 10000 := by
  have hlt : s - 1 < r.stops.length := by omega
  obtain ⟨a, b, c, d, e, he, hok⟩ := h.stops (r.stops[s - 1]) (List.getElem_mem hlt)
  have hg : r.stops.getD (s - 1) [] = [a, b, c, d, e] := by rw [List.getD_eq_getElem?_getD, List.getElem?_eq_getElem hlt]; exact he
  unfold stopV
  rw [hg]
  simp only [stopOk, Bool.and_eq_true, decide_eq_true_eq, fit_iff] at hok
  show 0 ≤ b ∧ 0 ≤ c ∧ c ≤ d ∧ 0 ≤ e ∧ b ≤ 10000 ∧ d ≤ 10000 ∧ e ≤ 10000
  omega
/- lists of sites, as numbers -/
def zL (c : List Nat) : List Int := c.map fun (s : Nat) => (s : Int)
theorem zL_get (c : List Nat) (i : Nat) : ((zL c).getD i 0) = ((c.getD i 0 : Nat) : Int) := by
  unfold zL
  rw [List.getD_eq_getElem?_getD, List.getD_eq_getElem?_getD, List.getElem?_map]
  cases c[i]? <;> rfl
theorem zL_len (c : List Nat) : (zL c).length = c.length := by simp [zL]
theorem legD_z (D : Nat → Nat → Int) (c : List Nat) (k : Nat) : legD D (zL c) k = D (c.getD k 0) (c.getD (k + 1) 0) := by
  unfold legD; rw [zL_get, zL_get]; simp
theorem want_z (r : Rd) (D : Nat → Nat → Int) (c : List Nat) : wantTo r (zL c) = sumW (insOf r D) c := by
  unfold wantTo sumW zL
  rw [List.map_map]
  congr 1
  apply List.map_congr_left
  intro s _
  simp only [Function.comp]
  by_cases h : s = 0
  · rw [if_pos (by omega), if_pos h]
  · rw [if_neg (by omega), if_neg h]; rfl
theorem nbr_of_getD : ∀ (c : List Nat) (i : Nat), i + 1 < c.length → (c.getD i 0, c.getD (i + 1) 0) ∈ nbr c := by
  intro c
  induction c with
  | nil => intro i h; simp at h
  | cons x c ih =>
    intro i h
    cases c with
    | nil => simp at h
    | cons y c =>
      cases i with
      | zero => simp [nbr]
      | succ i =>
        have := ih i (by simpa using h)
        show (((y :: c).getD i 0), ((y :: c).getD (i + 1) 0)) ∈ (x, y) :: nbr (y :: c)
        exact List.mem_cons_of_mem _ this
theorem way_z (D : Nat → Nat → Int) (c : List Nat) : wayOk D (zL c) = true ↔ ∀ p ∈ nbr c, D p.1 p.2 ≠ -1 := by
  unfold wayOk
  rw [List.all_eq_true]
  constructor
  · intro h p hp
    obtain ⟨i, hi, rfl⟩ := nbr_getD c p hp
    have := h i (by rw [zL_len]; simp; omega)
    rw [legD_z] at this
    simpa using this
  · intro h i hi
    have hi' : i + 1 < c.length := by rw [zL_len] at hi; simp at hi; omega
    rw [legD_z]
    have := h _ (nbr_of_getD c i hi')
    simpa using this
/- times -/
def fQ (I : Ins) (c : List Nat) : Nat → Option Int
  | 0 => some 0
  | k + 1 => (fQ I c k).bind fun t => arrQ I (t + (if k = 0 then 0 else I.D (c.getD (k - 1) 0) (c.getD k 0))) (c.getD k 0)
theorem tm_f (r : Rd) (D : Nat → Nat → Int) (c : List Nat) (S : List Int) : ∀ k, (tmGoN r D (zL c) S k).map (·.1) = fQ (insOf r D) c k := by
  intro k
  induction k with
  | zero => rfl
  | succ k ih =>
    rw [tmGoN_succ]
    show _ = (fQ (insOf r D) c k).bind _
    rw [← ih]
    cases hg : tmGoN r D (zL c) S k with
    | none => rfl
    | some st =>
      obtain ⟨t, S'⟩ := st
      show Option.map _ (tmStepN r D (zL c) (some (t, S')) k) = arrQ (insOf r D) (t + (if k = 0 then 0 else D (c.getD (k - 1) 0) (c.getD k 0))) (c.getD k 0)
      have hleg : legN D (zL c) k = if k = 0 then 0 else D (c.getD (k - 1) 0) (c.getD k 0) := by
        unfold legN
        by_cases h : k = 0
        · rw [if_pos h, if_pos h]
        · rw [if_neg h, if_neg h, legD_z, show k - 1 + 1 = k by omega]
      have harr : ∀ a s, arrQ (insOf r D) a s = if s = 0 then (if a ≤ r.close then some a else none) else if (if a < stopV r s 2 then stopV r s 2 else a) ≤ stopV r s 3 then some ((if a < stopV r s 2 then stopV r s 2 else a) + stopV r s 4) else none := fun _ _ => rfl
      rw [harr]
      unfold tmStepN startN
      simp only [zL_get, hleg]
      generalize (t + (if k = 0 then 0 else D (c.getD (k - 1) 0) (c.getD k 0))) = a
      generalize c.getD k 0 = s
      by_cases h0 : s = 0
      · rw [if_pos (by omega), if_pos h0]
        by_cases h1 : a ≤ r.close
        · rw [if_pos h1, if_pos h1]; rfl
        · rw [if_neg h1, if_neg h1]; rfl
      · rw [if_neg (by omega), if_neg h0]
        simp only [Int.toNat_natCast]
        generalize (if a < stopV r s 2 then stopV r s 2 else a) = m
        by_cases h1 : stopV r s 3 < m
        · rw [if_pos h1, if_neg (by omega)]; rfl
        · rw [if_neg h1, if_pos (by omega)]; rfl
theorem fQ_run (I : Ins) : ∀ (l pre : List Nat) (x : Nat) (t : Int), fQ I (pre ++ x :: l) (pre.length + 1) = some t → (fQ I (pre ++ x :: l) (pre.length + 1 + l.length)).isSome = runQ I t x l := by
  intro l
  induction l with
  | nil => intro pre x t h; rw [List.length_nil, Nat.add_zero, h]; rfl
  | cons y l ih =>
    intro pre x t h
    have hg1 : (pre ++ x :: y :: l).getD pre.length 0 = x := by simp [List.getD_eq_getElem?_getD]
    have hg2 : (pre ++ x :: y :: l).getD (pre.length + 1) 0 = y := by
      rw [List.getD_eq_getElem?_getD, List.getElem?_append_right (by omega)]; simp
    have hstep : fQ I (pre ++ x :: y :: l) (pre.length + 1 + 1) = arrQ I (t + I.D x y) y := by
      show (fQ I (pre ++ x :: y :: l) (pre.length + 1)).bind _ = _
      rw [h]
      show arrQ I (t + (if pre.length + 1 = 0 then 0 else I.D ((pre ++ x :: y :: l).getD (pre.length + 1 - 1) 0) ((pre ++ x :: y :: l).getD (pre.length + 1) 0))) ((pre ++ x :: y :: l).getD (pre.length + 1) 0) = _
      rw [if_neg (by omega), Nat.add_sub_cancel, hg1, hg2]
    rw [runQ_cons]
    cases ha : arrQ I (t + I.D x y) y with
    | none =>
      rw [ha] at hstep
      have hno : ∀ k, fQ I (pre ++ x :: y :: l) (pre.length + 1 + 1 + k) = none := by
        intro k
        induction k with
        | zero => exact hstep
        | succ k ihk => show (fQ I (pre ++ x :: y :: l) (pre.length + 1 + 1 + k)).bind _ = none; rw [ihk]; rfl
      have := hno l.length
      rw [show pre.length + 1 + (y :: l).length = pre.length + 1 + 1 + l.length by simp; omega, this]; rfl
    | some u =>
      rw [ha] at hstep
      have e : pre ++ x :: y :: l = (pre ++ [x]) ++ y :: l := by simp
      have := ih (pre ++ [x]) y u (by rw [← e]; simpa using hstep)
      rw [← e] at this
      simp only
      rw [← this]
      congr 2
      simp only [List.length_append, List.length_cons, List.length_nil]
      omega
theorem chain_f (I : Ins) (c : List Nat) : (fQ I c c.length).isSome = chainT I c := by
  cases c with
  | nil => rfl
  | cons s l =>
    show _ = (match arrQ I 0 s with | none => false | some t => runQ I t s l)
    have h1 : fQ I (s :: l) 1 = arrQ I 0 s := by
      show arrQ I (0 + (if 0 = 0 then 0 else _)) ((s :: l).getD 0 0) = _
      rw [if_pos rfl]; rfl
    cases ha : arrQ I 0 s with
    | none =>
      rw [ha] at h1
      have hno : ∀ k, fQ I (s :: l) (1 + k) = none := by
        intro k
        induction k with
        | zero => exact h1
        | succ k ihk => show (fQ I (s :: l) (1 + k)).bind _ = none; rw [ihk]; rfl
      have := hno l.length
      rw [show (s :: l).length = 1 + l.length by simp; omega, this]; rfl
    | some t =>
      have := fQ_run I l [] s t (by simpa using h1.trans ha)
      simp only [List.nil_append, List.length_nil, Nat.zero_add] at this
      show _ = runQ I t s l
      rw [← this]
      congr 2
      simp only [List.length_cons]
      omega
theorem time_z (r : Rd) (D : Nat → Nat → Int) (c : List Nat) (S : List Int) : (timeN r D (zL c) S).isSome = chainT (insOf r D) c := by
  unfold timeN
  rw [← chain_f, ← tm_f r D c S c.length, zL_len]
  cases tmGoN r D (zL c) S c.length <;> rfl
end Go.Proofs.YtebinaopncclgabGreatDoor
