/- Plain: plans that are judged, as lists of routes. -/
import Derived.Test.YtebinaopncclgabGreatDoorJArea
import Derived.Test.YtebinaopncclgabGreatDoorDPlain
import Derived.Test.YtebinaopncclgabGreatDoorSMatch
namespace Go.Proofs.YtebinaopncclgabGreatDoor

def insOf (r : Rd) (D : Nat → Nat → Int) : Ins := ⟨r.stops.length, r.vans.toNat, r.load, r.close, D, fun s => stopV r s 1, fun s => stopV r s 2, fun s => stopV r s 3, fun s => stopV r s 4⟩
theorem stopV_ok {r : Rd} (h : RdOk r) {s : Nat} (h1 : 1 ≤ s) (h2 : s ≤ r.stops.length) : 0 ≤ stopV r s 1 ∧ 0 ≤ stopV r s 2 ∧ stopV r s 2 ≤ stopV r s 3 ∧ 0 ≤ stopV r s 4 ∧ stopV r s 1 ≤ 10000 ∧ stopV r s 3 ≤ 10000 ∧ stopV r s 4 ≤ 10000 := by
  have hlt : s - 1 < r.stops.length := by omega
  obtain ⟨a, b, c, d, e, he, hok⟩ := h.stops (r.stops[s - 1]) (List.getElem_mem hlt)
  have hg : r.stops.getD (s - 1) [] = [a, b, c, d, e] := by rw [List.getD_eq_getElem?_getD, List.getElem?_eq_getElem hlt]; exact he
  unfold stopV
  rw [hg]
  simp only [stopOk, Bool.and_eq_true, decide_eq_true_eq, fit_iff] at hok
  show 0 ≤ b ∧ 0 ≤ c ∧ c ≤ d ∧ 0 ≤ e ∧ b ≤ 10000 ∧ d ≤ 10000 ∧ e ≤ 10000
  omega
theorem insOk_of {r : Rd} {D : Nat → Nat → Int} (h : RdOk r) (hD : ∀ a b, a < r.stops.length + 1 → b < r.stops.length + 1 → -1 ≤ D a b) : InsOk (insOf r D) := by
  have hh := h.head
  simp only [headOk, Bool.and_eq_true, decide_eq_true_eq, fit_iff] at hh
  exact ⟨by show 0 ≤ r.close; omega, by show 0 ≤ r.load; omega, fun s h1 h2 => (stopV_ok h h1 h2).1, fun s h1 h2 => ⟨(stopV_ok h h1 h2).2.1, (stopV_ok h h1 h2).2.2.1⟩, fun s h1 h2 => (stopV_ok h h1 h2).2.2.2.1, fun a b ha hb => hD a b (Nat.lt_succ_of_le ha) (Nat.lt_succ_of_le hb)⟩

/- lists of sites, as numbers -/
def zL (c : List Nat) : List Int := c.map fun (s : Nat) => (s : Int)
theorem zL_get (c : List Nat) (i : Nat) : ((zL c).getD i 0) = ((c.getD i 0 : Nat) : Int) := by
  unfold zL
  rw [List.getD_eq_getElem?_getD, List.getD_eq_getElem?_getD, List.getElem?_map]
  cases c[i]? <;> rfl
theorem zL_len (c : List Nat) : (zL c).length = c.length := by simp [zL]
theorem legD_z (D : Nat → Nat → Int) (c : List Nat) (k : Nat) : legD D (zL c) k = D (c.getD k 0) (c.getD (k + 1) 0) := by
  unfold legD; rw [zL_get, zL_get]; simp
theorem want_z (r : Rd) (D : Nat → Nat → Int) (c : List Nat) : wantTo r (zL c) = sumW (insOf r D) c := by
  unfold wantTo sumW zL
  rw [List.map_map]
  congr 1
  apply List.map_congr_left
  intro s _
  simp only [Function.comp]
  by_cases h : s = 0
  · rw [if_pos (by omega), if_pos h]
  · rw [if_neg (by omega), if_neg h]; rfl
theorem nbr_of_getD : ∀ (c : List Nat) (i : Nat), i + 1 < c.length → (c.getD i 0, c.getD (i + 1) 0) ∈ nbr c := by
  intro c
  induction c with
  | nil => intro i h; simp at h
  | cons x c ih =>
    intro i h
    cases c with
    | nil => simp at h
    | cons y c =>
      cases i with
      | zero => simp [nbr]
      | succ i =>
        have := ih i (by simpa using h)
        show (((y :: c).getD i 0), ((y :: c).getD (i + 1) 0)) ∈ (x, y) :: nbr (y :: c)
        exact List.mem_cons_of_mem _ this
theorem way_z (D : Nat → Nat → Int) (c : List Nat) : wayOk D (zL c) = true ↔ ∀ p ∈ nbr c, D p.1 p.2 ≠ -1 := by
  unfold wayOk
  rw [List.all_eq_true]
  constructor
  · intro h p hp
    obtain ⟨i, hi, rfl⟩ := nbr_getD c p hp
    have := h i (by rw [zL_len]; simp; omega)
    rw [legD_z] at this
    simpa using this
  · intro h i hi
    have hi' : i + 1 < c.length := by rw [zL_len] at hi; simp at hi; omega
    rw [legD_z]
    have := h _ (nbr_of_getD c i hi')
    simpa using this
theorem rt_z (D : Nat → Nat → Int) : ∀ (c : List Nat), rtTo D (zL c) (c.length - 1) = sumA D (nbr c) := by
  intro c
  have key : ∀ k, k < c.length → rtTo D (zL c) k = sumA D (nbr (c.take (k + 1))) := by
    intro k
    induction k with
    | zero =>
      intro h
      have : nbr (c.take 1) = [] := by
        cases c with
        | nil => rfl
        | cons x c => rfl
      rw [this]; rfl
    | succ k ih =>
      intro h
      rw [rtTo_succ, ih (by omega), legD_z]
      have e1 : c.take (k + 1 + 1) = c.take (k + 1) ++ [c.getD (k + 1) 0] := by
        rw [List.take_succ_eq_append_getElem h, List.getD_eq_getElem?_getD, List.getElem?_eq_getElem h]; rfl
      have hne : c.take (k + 1) ≠ [] := by
        intro e; have h9 := congrArg List.length e; rw [List.length_take, List.length_nil] at h9; omega
      rw [e1, nbr_snoc _ _ hne]
      unfold sumA
      rw [List.map_append, List.sum_append_int]
      have hl : (c.take (k + 1)).getLast?.getD 0 = c.getD k 0 := by
        rw [List.getLast?_eq_getElem?]
        simp only [List.length_take]
        rw [show min (k + 1) c.length - 1 = k by omega, List.getElem?_take_of_lt (by omega), List.getD_eq_getElem?_getD]
      rw [hl]; simp
  cases hc : c with
  | nil => rfl
  | cons x d =>
    rw [← hc]
    have hl : c.length - 1 < c.length := by rw [hc]; simp
    have := key (c.length - 1) hl
    rw [this, show c.length - 1 + 1 = c.length by omega, List.take_length]
/- times -/
def fQ (I : Ins) (c : List Nat) : Nat → Option Int
  | 0 => some 0
  | k + 1 => (fQ I c k).bind fun t => arrQ I (t + (if k = 0 then 0 else I.D (c.getD (k - 1) 0) (c.getD k 0))) (c.getD k 0)
theorem tm_f (r : Rd) (D : Nat → Nat → Int) (c : List Nat) (S : List Int) : ∀ k, (tmGoN r D (zL c) S k).map (·.1) = fQ (insOf r D) c k := by
  intro k
  induction k with
  | zero => rfl
  | succ k ih =>
    rw [tmGoN_succ]
    show _ = (fQ (insOf r D) c k).bind _
    rw [← ih]
    cases hg : tmGoN r D (zL c) S k with
    | none => rfl
    | some st =>
      obtain ⟨t, S'⟩ := st
      show Option.map _ (tmStepN r D (zL c) (some (t, S')) k) = arrQ (insOf r D) (t + (if k = 0 then 0 else D (c.getD (k - 1) 0) (c.getD k 0))) (c.getD k 0)
      have hleg : legN D (zL c) k = if k = 0 then 0 else D (c.getD (k - 1) 0) (c.getD k 0) := by
        unfold legN
        by_cases h : k = 0
        · rw [if_pos h, if_pos h]
        · rw [if_neg h, if_neg h, legD_z, show k - 1 + 1 = k by omega]
      have harr : ∀ a s, arrQ (insOf r D) a s = if s = 0 then (if a ≤ r.close then some a else none) else if (if a < stopV r s 2 then stopV r s 2 else a) ≤ stopV r s 3 then some ((if a < stopV r s 2 then stopV r s 2 else a) + stopV r s 4) else none := fun _ _ => rfl
      rw [harr]
      unfold tmStepN startN
      simp only [zL_get, hleg]
      generalize (t + (if k = 0 then 0 else D (c.getD (k - 1) 0) (c.getD k 0))) = a
      generalize c.getD k 0 = s
      by_cases h0 : s = 0
      · rw [if_pos (by omega), if_pos h0]
        by_cases h1 : a ≤ r.close
        · rw [if_pos h1, if_pos h1]; rfl
        · rw [if_neg h1, if_neg h1]; rfl
      · rw [if_neg (by omega), if_neg h0]
        simp only [Int.toNat_natCast]
        generalize (if a < stopV r s 2 then stopV r s 2 else a) = m
        by_cases h1 : stopV r s 3 < m
        · rw [if_pos h1, if_neg (by omega)]; rfl
        · rw [if_neg h1, if_pos (by omega)]; rfl
theorem fQ_run (I : Ins) : ∀ (l pre : List Nat) (x : Nat) (t : Int), fQ I (pre ++ x :: l) (pre.length + 1) = some t → (fQ I (pre ++ x :: l) (pre.length + 1 + l.length)).isSome = runQ I t x l := by
  intro l
  induction l with
  | nil => intro pre x t h; rw [List.length_nil, Nat.add_zero, h]; rfl
  | cons y l ih =>
    intro pre x t h
    have hg1 : (pre ++ x :: y :: l).getD pre.length 0 = x := by simp [List.getD_eq_getElem?_getD]
    have hg2 : (pre ++ x :: y :: l).getD (pre.length + 1) 0 = y := by
      rw [List.getD_eq_getElem?_getD, List.getElem?_append_right (by omega)]; simp
    have hstep : fQ I (pre ++ x :: y :: l) (pre.length + 1 + 1) = arrQ I (t + I.D x y) y := by
      show (fQ I (pre ++ x :: y :: l) (pre.length + 1)).bind _ = _
      rw [h]
      show arrQ I (t + (if pre.length + 1 = 0 then 0 else I.D ((pre ++ x :: y :: l).getD (pre.length + 1 - 1) 0) ((pre ++ x :: y :: l).getD (pre.length + 1) 0))) ((pre ++ x :: y :: l).getD (pre.length + 1) 0) = _
      rw [if_neg (by omega), Nat.add_sub_cancel, hg1, hg2]
    rw [runQ_cons]
    cases ha : arrQ I (t + I.D x y) y with
    | none =>
      rw [ha] at hstep
      have hno : ∀ k, fQ I (pre ++ x :: y :: l) (pre.length + 1 + 1 + k) = none := by
        intro k
        induction k with
        | zero => exact hstep
        | succ k ihk => show (fQ I (pre ++ x :: y :: l) (pre.length + 1 + 1 + k)).bind _ = none; rw [ihk]; rfl
      have := hno l.length
      rw [show pre.length + 1 + (y :: l).length = pre.length + 1 + 1 + l.length by simp; omega, this]; rfl
    | some u =>
      rw [ha] at hstep
      have e : pre ++ x :: y :: l = (pre ++ [x]) ++ y :: l := by simp
      have := ih (pre ++ [x]) y u (by rw [← e]; simpa using hstep)
      rw [← e] at this
      simp only
      rw [← this]
      congr 2
      simp only [List.length_append, List.length_cons, List.length_nil]
      omega
theorem chain_f (I : Ins) (c : List Nat) : (fQ I c c.length).isSome = chainT I c := by
  cases c with
  | nil => rfl
  | cons s l =>
    show _ = (match arrQ I 0 s with | none => false | some t => runQ I t s l)
    have h1 : fQ I (s :: l) 1 = arrQ I 0 s := by
      show arrQ I (0 + (if 0 = 0 then 0 else _)) ((s :: l).getD 0 0) = _
      rw [if_pos rfl]; rfl
    cases ha : arrQ I 0 s with
    | none =>
      rw [ha] at h1
      have hno : ∀ k, fQ I (s :: l) (1 + k) = none := by
        intro k
        induction k with
        | zero => exact h1
        | succ k ihk => show (fQ I (s :: l) (1 + k)).bind _ = none; rw [ihk]; rfl
      have := hno l.length
      rw [show (s :: l).length = 1 + l.length by simp; omega, this]; rfl
    | some t =>
      have := fQ_run I l [] s t (by simpa using h1.trans ha)
      simp only [List.nil_append, List.length_nil, Nat.zero_add] at this
      show _ = runQ I t s l
      rw [← this]
      congr 2
      simp only [List.length_cons]
      omega
theorem time_z (r : Rd) (D : Nat → Nat → Int) (c : List Nat) (S : List Int) : (timeN r D (zL c) S).isSome = chainT (insOf r D) c := by
  unfold timeN
  rw [← chain_f, ← tm_f r D c S c.length, zL_len]
  cases tmGoN r D (zL c) S c.length <;> rfl
/- the routes of a plan's text -/
def digN (p : List UInt8) : List Nat := p.map fun c => c.toNat - 48
def routesN (l : List UInt8) : List (List Nat) := if l = [] then [] else (splitB 47 l).map digN
def rtZ (ρ : List Nat) : List Int := zL (0 :: (ρ ++ [0]))
theorem routes_N {n : Nat} {l : List UInt8} (h : isPlanS n l = true) : routesS l = (routesN l).map rtZ := by
  by_cases hn : l = []
  · subst hn; rfl
  · have hp := planned_plan n l
    rw [h] at hp
    unfold plannedS at hp
    have hp2 : (splitB 47 l).all (okP n) = true := by
      cases l with
      | nil => exact absurd rfl hn
      | cons x t => simpa using hp
    rw [routes_split l hn]
    unfold routesN
    rw [if_neg hn, List.map_map]
    apply List.map_congr_left
    intro p hpm
    have h1 := List.all_eq_true.1 hp2 p hpm
    unfold okP at h1
    rw [Bool.and_eq_true, List.all_eq_true] at h1
    have hd : digV p = zL (digN p) := by
      unfold digV zL digN
      rw [List.map_map]
      apply List.map_congr_left
      intro c hc
      have := h1.2 c hc
      unfold okC at this
      simp only [Bool.and_eq_true, decide_eq_true_eq] at this
      simp only [Function.comp]; omega
    show routeS p = rtZ (digN p)
    unfold routeS rtZ
    rw [hd]
    simp [zL]
theorem digN_range {n : Nat} {l : List UInt8} (h : isPlanS n l = true) : (∀ ρ ∈ routesN l, ρ ≠ []) ∧ ∀ s ∈ (routesN l).flatten, 1 ≤ s ∧ s ≤ n := by
  by_cases hn : l = []
  · subst hn
    have : routesN [] = [] := rfl
    rw [this]; exact ⟨fun ρ h => absurd h (by simp), fun s h => absurd h (by simp)⟩
  · have hp := planned_plan n l
    rw [h] at hp
    unfold plannedS at hp
    have hp2 : (splitB 47 l).all (okP n) = true := by
      cases l with
      | nil => exact absurd rfl hn
      | cons x t => simpa using hp
    have key : ∀ p ∈ splitB 47 l, p ≠ [] ∧ ∀ c ∈ p, 49 ≤ c.toNat ∧ c.toNat - 48 ≤ n := fun p hpm => by
      have h1 := List.all_eq_true.1 hp2 p hpm
      unfold okP at h1
      rw [Bool.and_eq_true, List.all_eq_true] at h1
      refine ⟨by simpa using h1.1, fun c hc => ?_⟩
      have := h1.2 c hc
      unfold okC at this
      simpa using this
    unfold routesN
    rw [if_neg hn]
    constructor
    · intro ρ hρ
      obtain ⟨p, hp1, rfl⟩ := List.mem_map.1 hρ
      have := (key p hp1).1
      unfold digN; simpa using this
    · intro s hs
      obtain ⟨ρ, hρ, hm⟩ := List.mem_flatten.1 hs
      obtain ⟨p, hp1, rfl⟩ := List.mem_map.1 hρ
      obtain ⟨c, hc, rfl⟩ := List.mem_map.1 hm
      have := (key p hp1).2 c hc
      omega
/- how often a stop stands in the text and in the routes -/
theorem count_split (d : Nat) (hd : 1 ≤ d) : ∀ l : List UInt8, (∀ c ∈ l, c = 47 ∨ 49 ≤ c.toNat) → (((splitB 47 l).map digN).flatten).count d = cntS l d := by
  intro l
  refine snoc_ind (P := fun l => (∀ c ∈ l, c = 47 ∨ 49 ≤ c.toNat) → (((splitB 47 l).map digN).flatten).count d = cntS l d) ?_ ?_ l
  · intro _
    show ([digN []].flatten).count d = 0
    simp [digN]
  · intro l c ih hb
    have h1 := ih fun x hx => hb x (by simp [hx])
    rw [cnt_snoc, ← h1]
    unfold splitB
    rw [spl_snoc]
    generalize spl 47 l = st
    obtain ⟨P, C⟩ := st
    unfold stepL
    by_cases hc : c = 47
    · rw [if_pos hc, if_neg (by rw [hc]; show ¬ (47 = 48 + d); omega)]
      simp [digN]
    · rw [if_neg hc]
      have hcb : 49 ≤ c.toNat := by
        rcases hb c (by simp) with e | e
        · exact absurd e hc
        · exact e
      simp only [List.map_append, List.map_cons, List.map_nil, List.flatten_append, List.flatten_cons, List.flatten_nil, List.append_nil, List.count_append, digN]
      have : List.count d [c.toNat - 48] = if c.toNat = 48 + d then 1 else 0 := by
        rw [List.count_singleton]
        by_cases e : c.toNat = 48 + d
        · rw [if_pos e]; simp; omega
        · rw [if_neg e]; simp; omega
      rw [this]; omega
theorem count_routes {n : Nat} {l : List UInt8} (h : isPlanS n l = true) {d : Nat} (hd : 1 ≤ d) : (routesN l).flatten.count d = cntS l d := by
  by_cases hn : l = []
  · subst hn; rfl
  · unfold routesN
    rw [if_neg hn]
    exact count_split d hd l fun c hc => by
      rcases plan_bytes h c hc with e | e
      · exact .inl e
      · exact .inr e.1
theorem times_some {r : Rd} {D : Nat → Nat → Int} : ∀ (L : List (List Int)) (S : List Int), (∀ l ∈ L, ∀ S S', (timeS r D l S).isSome = (timeS r D l S').isSome) → ((timesS r D L S).isSome = true ↔ ∀ l ∈ L, (timeS r D l S).isSome = true) := by
  intro L
  induction L with
  | nil => intro S _; simp [timesS]
  | cons l L ih =>
    intro S h
    have key : timesS r D (l :: L) S = match timeS r D l S with | none => none | some S' => timesS r D L S' := by
      unfold timesS
      rw [List.foldl_cons]
      cases ht : timeS r D l S with
      | none =>
        have : ∀ M : List (List Int), M.foldl (fun st l => st.bind (timeS r D l)) none = none := by
          intro M; induction M with
          | nil => rfl
          | cons x M ihm => simpa using ihm
        simp only [Option.bind_some, ht]
        exact this L
      | some S' => simp only [Option.bind_some, ht]
    rw [key]
    cases ht : timeS r D l S with
    | none => simp [ht]
    | some S' =>
      simp only
      rw [ih S' fun x hx => h x (by simp [hx])]
      constructor
      · intro hh x hx
        rcases List.mem_cons.1 hx with e | e
        · rw [e, ht]; rfl
        · rw [h x (by simp [e]) S S']; exact hh x e
      · intro hh x hx
        rw [h x (by simp [hx]) S' S]; exact hh x (by simp [hx])
theorem rtZ_shape {n k : Nat} {ρ : List Nat} (hk : ρ.length ≤ k) (h : ∀ s ∈ ρ, 1 ≤ s ∧ s ≤ n) : Shape n k (rtZ ρ) := by
  refine ⟨zL ρ, by simp [rtZ, zL], by rw [zL_len]; exact hk, fun x hx => ?_⟩
  obtain ⟨s, hs, rfl⟩ := List.mem_map.1 hx
  have := h s hs
  constructor <;> omega
theorem rtZ_time {r : Rd} {D : Nat → Nat → Int} (hc : 0 ≤ r.close) {ρ : List Nat} {n : Nat} (h : ∀ s ∈ ρ, 1 ≤ s ∧ s ≤ n) (S : List Int) : (timeS r D (rtZ ρ) S).isSome = runQ (insOf r D) 0 0 (ρ ++ [0]) := by
  rw [← (rtZ_shape (Nat.le_refl _) h).times hc]
  unfold rtZ
  rw [time_z]
  have e : arrQ (insOf r D) 0 0 = some 0 := by unfold arrQ; rw [if_pos rfl]; exact if_pos hc
  show (match arrQ (insOf r D) 0 0 with | none => false | some t => runQ (insOf r D) t 0 (ρ ++ [0])) = _
  rw [e]
/- a plan is accepted just where its routes are a plan -/
theorem judge_iff {r : Rd} {D : Nat → Nat → Int} (hok : RdOk r) {l : List UInt8} : (∃ c S, judgeS r D l = (c, some S, 0)) ↔ (isPlanS r.stops.length l = true ∧ PlanQ (insOf r D) (routesN l)) := by
  have hh := hok.head
  simp only [headOk, Bool.and_eq_true, decide_eq_true_eq, fit_iff] at hh
  have hcl : 0 ≤ r.close := by omega
  constructor
  · rintro ⟨c, S, hj⟩
    unfold judgeS at hj
    by_cases h1 : textFaultS r.stops.length l = 0
    · rw [if_neg (by omega)] at hj
      by_cases h2 : r.vans < ((routesS l).length : Int)
      · rw [if_pos h2] at hj; cases hj
      rw [if_neg h2] at hj
      by_cases h3 : (routesS l).all (loadOk r) = false
      · rw [if_pos h3] at hj; cases hj
      rw [if_neg h3] at hj
      by_cases h4 : (routesS l).all (wayOk D) = false
      · rw [if_pos h4] at hj; cases hj
      rw [if_neg h4] at hj
      obtain ⟨_, hpl, hcnt⟩ := fine_size h1
      refine ⟨hpl, ?_⟩
      have hrs := routes_N hpl
      obtain ⟨hne, hrg⟩ := digN_range hpl
      have h3' : (routesS l).all (loadOk r) = true := by simpa using h3
      have h4' : (routesS l).all (wayOk D) = true := by simpa using h4
      rw [hrs] at h2 h3' h4' hj
      have hin : ∀ ρ ∈ routesN l, ∀ s ∈ ρ, 1 ≤ s ∧ s ≤ r.stops.length := fun ρ hρ s hs => hrg s (List.mem_flatten.2 ⟨ρ, hρ, hs⟩)
      refine ⟨?_, hne, hrg, nodup_count fun s hs => ?_, fun s k1 k2 => ?_, fun ρ hρ => ?_, fun p hp => ?_, fun ρ hρ => ?_⟩
      · show (routesN l).length ≤ r.vans.toNat
        simp at h2; omega
      · have hs' := hrg s hs
        rw [count_routes hpl hs'.1]
        have := hcnt (s - 1) (by omega)
        rwa [show s - 1 + 1 = s by omega] at this
      · refine List.count_pos_iff.1 ?_
        rw [count_routes hpl k1]
        have := hcnt (s - 1) (by have : s ≤ r.stops.length := k2; omega)
        rw [show s - 1 + 1 = s by omega] at this
        omega
      · have h5 := List.all_eq_true.1 h3' (rtZ ρ) (List.mem_map.2 ⟨ρ, hρ, rfl⟩)
        unfold loadOk rtZ at h5
        rw [want_z r D] at h5
        have e : sumW (insOf r D) (0 :: (ρ ++ [0])) = sumW (insOf r D) ρ := by
          have : 0 :: (ρ ++ [0]) = [0] ++ ρ ++ [0] := by simp
          rw [this, sumW_app, sumW_app]; simp [sumW]
        rw [e] at h5
        exact of_decide_eq_true h5
      · obtain ⟨L, hL, hp'⟩ := List.mem_flatten.1 hp
        obtain ⟨ρ, hρ, rfl⟩ := List.mem_map.1 hL
        have h5 := List.all_eq_true.1 h4' (rtZ ρ) (List.mem_map.2 ⟨ρ, hρ, rfl⟩)
        unfold rtZ at h5
        rw [way_z] at h5
        rw [arcs_nbr] at hp'
        exact h5 p hp'
      · cases ht : timesS r D ((routesN l).map rtZ) (List.replicate r.stops.length 0) with
        | none => rw [ht] at hj; cases hj
        | some S' =>
          have := (times_some (r := r) (D := D) ((routesN l).map rtZ) (List.replicate r.stops.length 0) (fun x hx S S' => by
            obtain ⟨σ, hσ, rfl⟩ := List.mem_map.1 hx
            rw [rtZ_time (D := D) hcl (hin σ hσ), rtZ_time (D := D) hcl (hin σ hσ)])).1 (by rw [ht]; rfl) (rtZ ρ) (List.mem_map.2 ⟨ρ, hρ, rfl⟩)
          rwa [rtZ_time hcl (hin ρ hρ)] at this
    · rw [if_pos h1] at hj; cases hj
  · rintro ⟨hpl, hp⟩
    have hrs := routes_N hpl
    have hin : ∀ ρ ∈ routesN l, ∀ s ∈ ρ, 1 ≤ s ∧ s ≤ r.stops.length := fun ρ hρ s hs => hp.stops s (List.mem_flatten.2 ⟨ρ, hρ, hs⟩)
    have hc1 : ∀ d, d < r.stops.length → cntS l (d + 1) = 1 := fun d hd => by
      rw [← count_routes hpl (by omega)]
      have := List.Nodup.count hp.once (a := d + 1)
      rw [if_pos (hp.all (d + 1) (by omega) (by show d + 1 ≤ r.stops.length; omega))] at this
      exact this
    have h1 : textFaultS r.stops.length l = 0 := by
      unfold textFaultS
      rw [if_neg (by rw [hpl]; simp), if_neg, if_neg]
      · rw [List.any_eq_true]
        rintro ⟨d, hd, hh⟩
        have := hc1 d (by simpa using hd)
        simp at hh; omega
      · rw [List.any_eq_true]
        rintro ⟨d, hd, hh⟩
        have := hc1 d (by simpa using hd)
        simp at hh; omega
    have h2 : ¬ r.vans < ((routesS l).length : Int) := by
      rw [hrs]
      have : (routesN l).length ≤ r.vans.toNat := hp.few
      simp; omega
    have h3 : ¬ (routesS l).all (loadOk r) = false := by
      rw [hrs]
      have : ((routesN l).map rtZ).all (loadOk r) = true := by
        rw [List.all_eq_true]
        intro x hx
        obtain ⟨ρ, hρ, rfl⟩ := List.mem_map.1 hx
        unfold loadOk rtZ
        rw [want_z r D]
        have e : sumW (insOf r D) (0 :: (ρ ++ [0])) = sumW (insOf r D) ρ := by
          have : 0 :: (ρ ++ [0]) = [0] ++ ρ ++ [0] := by simp
          rw [this, sumW_app, sumW_app]; simp [sumW]
        rw [e]
        exact decide_eq_true (hp.load ρ hρ)
      rw [this]; simp
    have h4 : ¬ (routesS l).all (wayOk D) = false := by
      rw [hrs]
      have : ((routesN l).map rtZ).all (wayOk D) = true := by
        rw [List.all_eq_true]
        intro x hx
        obtain ⟨ρ, hρ, rfl⟩ := List.mem_map.1 hx
        unfold rtZ
        rw [way_z]
        intro p hpp
        exact hp.way p (List.mem_flatten.2 ⟨_, List.mem_map.2 ⟨ρ, hρ, rfl⟩, by rw [arcs_nbr]; exact hpp⟩)
      rw [this]; simp
    have h5 : (timesS r D (routesS l) (List.replicate r.stops.length 0)).isSome = true := by
      rw [hrs]
      refine (times_some _ _ (fun x hx S S' => ?_)).2 (fun x hx => ?_)
      · obtain ⟨σ, hσ, rfl⟩ := List.mem_map.1 hx
        rw [rtZ_time hcl (hin σ hσ), rtZ_time hcl (hin σ hσ)]
      · obtain ⟨σ, hσ, rfl⟩ := List.mem_map.1 hx
        rw [rtZ_time hcl (hin σ hσ)]; exact hp.time σ hσ
    unfold judgeS
    rw [if_neg (by omega), if_neg h2, if_neg h3, if_neg h4]
    cases ht : timesS r D (routesS l) (List.replicate r.stops.length 0) with
    | none => rw [ht] at h5; cases h5
    | some S => exact ⟨_, S, rfl⟩
theorem judge_cost {r : Rd} {D : Nat → Nat → Int} {l : List UInt8} {c : Int} {S : List Int} (hj : judgeS r D l = (c, some S, 0)) : c = costQ (insOf r D) (routesN l) := by
  have hpl : isPlanS r.stops.length l = true := by
    unfold judgeS at hj
    by_cases h1 : textFaultS r.stops.length l = 0
    · exact (fine_size h1).2.1
    · rw [if_pos h1] at hj; cases hj
  have hc : c = lenTo D (routesS l) := by
    unfold judgeS at hj
    by_cases h1 : textFaultS r.stops.length l ≠ 0
    · rw [if_pos h1] at hj; cases hj
    rw [if_neg h1] at hj
    by_cases h2 : r.vans < ((routesS l).length : Int)
    · rw [if_pos h2] at hj; cases hj
    rw [if_neg h2] at hj
    by_cases h3 : (routesS l).all (loadOk r) = false
    · rw [if_pos h3] at hj; cases hj
    rw [if_neg h3] at hj
    by_cases h4 : (routesS l).all (wayOk D) = false
    · rw [if_pos h4] at hj; cases hj
    rw [if_neg h4] at hj
    cases ht : timesS r D (routesS l) (List.replicate r.stops.length 0) with
    | none => rw [ht] at hj; cases hj
    | some S' => rw [ht] at hj; simp only [Prod.mk.injEq] at hj; exact hj.1.symm
  rw [hc, routes_N hpl]
  unfold lenTo costQ arcsQ
  rw [List.map_map]
  have : ∀ L : List (List Nat), ((L.map ((fun l : List Int => rtTo D l (l.length - 1)) ∘ rtZ)).sum) = sumA (insOf r D).D ((L.map arcsR).flatten) := by
    intro L
    induction L with
    | nil => rfl
    | cons ρ L ih =>
      simp only [List.map_cons, List.sum_cons, List.flatten_cons, Function.comp]
      unfold sumA at ih ⊢
      rw [List.map_append, List.sum_append_int, ← ih]
      congr 1
      unfold rtZ
      rw [zL_len, rt_z, arcs_nbr]; rfl
  exact this _
end Go.Proofs.YtebinaopncclgabGreatDoor
