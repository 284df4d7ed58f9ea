/- Plain: a plan driven stop by stop, and judged. -/
import Derived.Test.YtebinaopncclgabJShape
namespace Go.Proofs.Ytebinaopncclgab

structure Dv where
  cost : Int
  spot : Nat
  now : Int
  want : Int
  S : List Int
def dvHome (r : Rd) (D : Nat → Nat → Int) (x : Dv) : Option Dv :=
  if D x.spot 0 = -1 ∨ r.close < x.now + D x.spot 0 then none else some ⟨x.cost + D x.spot 0, 0, 0, 0, x.S⟩
def dvT (r : Rd) (D : Nat → Nat → Int) (x : Dv) (k : Nat) : Int := if x.now + D x.spot k < stopV r k 2 then stopV r k 2 else x.now + D x.spot k
def dvStop (r : Rd) (D : Nat → Nat → Int) (x : Dv) (k : Nat) : Option Dv :=
  if D x.spot k = -1 ∨ stopV r k 3 < dvT r D x k ∨ r.load < x.want + stopV r k 1 then none
  else some ⟨x.cost + D x.spot k, k, dvT r D x k + stopV r k 4, x.want + stopV r k 1, x.S.set (k - 1) (dvT r D x k)⟩
def dvStep (r : Rd) (D : Nat → Nat → Int) (st : Option Dv) (c : UInt8) : Option Dv :=
  match st with
  | none => none
  | some x => if c = 47 then dvHome r D x else dvStop r D x (c.toNat - 48)
def dvGo (r : Rd) (D : Nat → Nat → Int) (Z : List Int) (l : List UInt8) : Option Dv := l.foldl (dvStep r D) (some ⟨0, 0, 0, 0, Z⟩)
theorem dvGo_snoc (r : Rd) (D : Nat → Nat → Int) (Z : List Int) (l : List UInt8) (c : UInt8) : dvGo r D Z (l ++ [c]) = dvStep r D (dvGo r D Z l) c := by simp [dvGo]
theorem dvGo_none (r : Rd) (D : Nat → Nat → Int) (Z : List Int) (l t : List UInt8) (h : dvGo r D Z l = none) : dvGo r D Z (l ++ t) = none := by
  have key : ∀ t : List UInt8, t.foldl (dvStep r D) none = none := by
    intro t; induction t with
    | nil => rfl
    | cons x t ih => simpa [dvStep] using ih
  unfold dvGo at h ⊢
  rw [List.foldl_append, h, key]
def drivenS (r : Rd) (D : Nat → Nat → Int) (Z : List Int) (l : List UInt8) : Option (Int × List Int) :=
  if l = [] then some (0, Z) else match dvGo r D Z l with
    | none => none
    | some x => match dvHome r D x with
      | none => none
      | some y => some (y.cost, y.S)

theorem getD_app {l t : List Int} {i : Nat} (h : i < l.length) : (l ++ t).getD i 0 = l.getD i 0 := by
  rw [List.getD_eq_getElem?_getD, List.getD_eq_getElem?_getD, List.getElem?_append_left h]
theorem getD_end {l : List Int} {x : Int} {t : List Int} : (l ++ x :: t).getD l.length 0 = x := by
  rw [List.getD_eq_getElem?_getD]; simp
theorem legD_app {D : Nat → Nat → Int} {l t : List Int} {q : Nat} (h : q + 1 < l.length) : legD D (l ++ t) q = legD D l q := by
  unfold legD; rw [getD_app (by omega), getD_app h]
theorem rtTo_app {D : Nat → Nat → Int} {l t : List Int} : ∀ q, q < l.length → rtTo D (l ++ t) q = rtTo D l q := by
  intro q
  induction q with
  | zero => intro _; rfl
  | succ q ih => intro h; rw [rtTo_succ, rtTo_succ, ih (by omega), legD_app h]
theorem tmStep_eq {r : Rd} {D : Nat → Nat → Int} {l l' : List Int} {q : Nat} (st : Option (Int × List Int)) (h1 : legD D l q = legD D l' q) (h2 : l.getD (q + 1) 0 = l'.getD (q + 1) 0) : tmStep r D l st q = tmStep r D l' st q := by
  cases st with
  | none => rfl
  | some st =>
    obtain ⟨a, b⟩ := st
    unfold tmStep startS
    revert h1 h2
    generalize legD D l q = d
    generalize l.getD (q + 1) 0 = y
    intro h1 h2
    subst h1 h2
    rfl
theorem tmStep_stop {r : Rd} {D : Nat → Nat → Int} {l S : List Int} {q k : Nat} {t d : Int} (h1 : legD D l q = d) (h2 : l.getD (q + 1) 0 = (k : Int)) (hk : k ≠ 0) : tmStep r D l (some (t, S)) q = if stopV r k 3 < (if t + d < stopV r k 2 then stopV r k 2 else t + d) then none else some ((if t + d < stopV r k 2 then stopV r k 2 else t + d) + stopV r k 4, S.set (k - 1) (if t + d < stopV r k 2 then stopV r k 2 else t + d)) := by
  unfold tmStep startS
  revert h1 h2
  generalize legD D l q = d'
  generalize l.getD (q + 1) 0 = y
  intro h1 h2
  subst h1 h2
  simp only
  rw [if_neg (by omega)]
  rfl
theorem tmGo_app {r : Rd} {D : Nat → Nat → Int} {l t S : List Int} : ∀ q, q < l.length → tmGo r D (l ++ t) S q = tmGo r D l S q := by
  intro q
  induction q with
  | zero => intro _; rfl
  | succ q ih =>
    intro h
    rw [tmGo_succ, tmGo_succ, ih (by omega)]
    exact tmStep_eq _ (legD_app h) (getD_app h)
/- the routes of a text that goes on -/
theorem rt_ext (p t : List UInt8) (h : p ++ t ≠ []) : ∃ x rest, routesS (p ++ t) = (rtGo p).1 ++ ((rtGo p).2 ++ x ++ [0]) :: rest := by
  have key : ∀ t : List UInt8, (∃ x, (rtGo (p ++ t)).1 = (rtGo p).1 ∧ (rtGo (p ++ t)).2 = (rtGo p).2 ++ x) ∨ ∃ x rest, (rtGo (p ++ t)).1 = (rtGo p).1 ++ ((rtGo p).2 ++ x ++ [0]) :: rest := by
    intro t
    refine snoc_ind (P := fun t => (∃ x, (rtGo (p ++ t)).1 = (rtGo p).1 ∧ (rtGo (p ++ t)).2 = (rtGo p).2 ++ x) ∨ ∃ x rest, (rtGo (p ++ t)).1 = (rtGo p).1 ++ ((rtGo p).2 ++ x ++ [0]) :: rest) ?_ ?_ t
    · exact .inl ⟨[], by simp, by simp⟩
    · intro t c ih
      rw [← List.append_assoc, rtGo_snoc]
      unfold rtStep
      by_cases hc : c = 47
      · rw [if_pos hc]
        rcases ih with ⟨x, h1, h2⟩ | ⟨x, rest, h1⟩
        · exact .inr ⟨x, [], by simp only [h1, h2]⟩
        · refine .inr ⟨x, rest ++ [(rtGo (p ++ t)).2 ++ [0]], ?_⟩
          simp only [h1]; simp
      · rw [if_neg hc]
        rcases ih with ⟨x, h1, h2⟩ | ⟨x, rest, h1⟩
        · exact .inl ⟨x ++ [(c.toNat : Int) - 48], h1, by simp only [h2]; simp⟩
        · exact .inr ⟨x, rest, h1⟩
  unfold routesS
  rw [if_neg h]
  rcases key t with ⟨x, h1, h2⟩ | ⟨x, rest, h1⟩
  · exact ⟨x, [], by rw [h1, h2]⟩
  · refine ⟨x, rest ++ [(rtGo (p ++ t)).2 ++ [0]], ?_⟩
    rw [h1]; simp

/- routes that a plan may have: none too heavy, all ways there, none late -/
def Good (r : Rd) (D : Nat → Nat → Int) (Z : List Int) (L : List (List Int)) : Prop := L.all (loadOk r) = true ∧ L.all (wayOk D) = true ∧ timesS r D L Z ≠ none
theorem bad_load {r : Rd} {D : Nat → Nat → Int} {Z : List Int} {L : List (List Int)} {l : List Int} (hm : l ∈ L) (h : loadOk r l = false) : ¬ Good r D Z L := fun g => by
  have := List.all_eq_true.1 g.1 l hm; rw [h] at this; cases this
theorem bad_way {r : Rd} {D : Nat → Nat → Int} {Z : List Int} {L : List (List Int)} {l : List Int} {q : Nat} (hm : l ∈ L) (hq : q + 1 < l.length) (h : legD D l q = -1) : ¬ Good r D Z L := fun g => by
  have h1 := List.all_eq_true.1 g.2.1 l hm
  have h2 := List.all_eq_true.1 h1 q (by simp; omega)
  rw [h] at h2; simp at h2
theorem bad_time {r : Rd} {D : Nat → Nat → Int} {Z S : List Int} {L R : List (List Int)} {l : List Int} (h0 : timesS r D L Z = some S) (h : timeS r D l S = none) : ¬ Good r D Z (L ++ l :: R) := fun g => by
  have h1 := timesS_none r D (L ++ [l]) R Z (by rw [timesS_snoc, h0]; exact h)
  exact g.2.2 (by rw [show L ++ l :: R = L ++ [l] ++ R by simp]; exact h1)
theorem wants_pos {r : Rd} (hr : ∀ k, 0 ≤ stopV r k 1) (l : List Int) : 0 ≤ wantTo r l := by
  induction l with
  | nil => simp [wantTo]
  | cons x t ih =>
    have h1 := hr x.toNat
    unfold wantTo at ih ⊢
    simp only [List.map_cons, List.sum_cons]
    split <;> omega
theorem wantTo_app (r : Rd) (a b : List Int) : wantTo r (a ++ b) = wantTo r a + wantTo r b := by simp [wantTo]

/- a plan driven up to some byte -/
structure DvAt (r : Rd) (D : Nat → Nat → Int) (Z : List Int) (p : List UInt8) (x : Dv) : Prop where
  load : (rtGo p).1.all (loadOk r) = true
  way : (rtGo p).1.all (wayOk D) = true
  time : ∃ S0, timesS r D (rtGo p).1 Z = some S0 ∧ tmGo r D (rtGo p).2 S0 ((rtGo p).2.length - 1) = some (x.now, x.S)
  want : wantTo r (rtGo p).2 = x.want
  fits : x.want ≤ r.load
  legs : ∀ q, q + 1 < (rtGo p).2.length → legD D (rtGo p).2 q ≠ -1
  cost : x.cost = lenTo D (rtGo p).1 + rtTo D (rtGo p).2 ((rtGo p).2.length - 1)
  last : (rtGo p).2.getD ((rtGo p).2.length - 1) 0 = x.spot
theorem dv_nil {r : Rd} {D : Nat → Nat → Int} {Z : List Int} (hl : 0 ≤ r.load) : DvAt r D Z [] ⟨0, 0, 0, 0, Z⟩ :=
  ⟨rfl, rfl, ⟨Z, rfl, rfl⟩, by simp [rtGo, wantTo], hl, fun q h => absurd h (by simp [rtGo]), by simp [rtGo, lenTo, rtTo], rfl⟩
theorem home_leg {r : Rd} {D : Nat → Nat → Int} {Z : List Int} {p : List UInt8} {x : Dv} (h : DvAt r D Z p x) (k : Int) (_hk : 0 ≤ k) (t : List Int) : legD D ((rtGo p).2 ++ k :: t) ((rtGo p).2.length - 1) = D x.spot k.toNat := by
  have hl := (rtGo_len p).2.1
  have h1 := h.last
  unfold legD
  rw [getD_app (by omega), h1, show (rtGo p).2.length - 1 + 1 = (rtGo p).2.length by omega, getD_end]; simp
/- back home -/
theorem dv_home {r : Rd} {D : Nat → Nat → Int} {Z : List Int} {p : List UInt8} {x : Dv} (h : DvAt r D Z p x) :
    (∀ y, dvHome r D x = some y → ((rtGo p).1 ++ [(rtGo p).2 ++ [0]]).all (loadOk r) = true ∧ ((rtGo p).1 ++ [(rtGo p).2 ++ [0]]).all (wayOk D) = true ∧ timesS r D ((rtGo p).1 ++ [(rtGo p).2 ++ [0]]) Z = some y.S ∧ y.cost = lenTo D ((rtGo p).1 ++ [(rtGo p).2 ++ [0]]) ∧ y.spot = 0 ∧ y.now = 0 ∧ y.want = 0)
    ∧ (dvHome r D x = none → ∀ R, ¬ Good r D Z ((rtGo p).1 ++ ((rtGo p).2 ++ [0]) :: R)) := by
  have hl := (rtGo_len p).2.1
  have hleg := home_leg h 0 (by omega) []
  obtain ⟨S0, ht0, ht1⟩ := h.time
  have htm : tmGo r D ((rtGo p).2 ++ [0]) S0 ((rtGo p).2.length) = some (x.now + D x.spot 0, x.S) := by
    have e : (rtGo p).2.length = (rtGo p).2.length - 1 + 1 := by omega
    rw [e, tmGo_succ, tmGo_app _ (by omega), ht1]
    simp only [tmStep]
    rw [show (rtGo p).2.length - 1 + 1 = (rtGo p).2.length by omega, getD_end, if_pos rfl, hleg]; rfl
  have e2 : ((rtGo p).2 ++ [(0 : Int)]).length - 1 = (rtGo p).2.length := by simp
  have htime : timeS r D ((rtGo p).2 ++ [0]) S0 = if x.now + D x.spot 0 ≤ r.close then some x.S else none := by
    unfold timeS
    rw [e2, htm]
  unfold dvHome
  constructor
  · intro y hy
    by_cases hb : D x.spot 0 = -1 ∨ r.close < x.now + D x.spot 0
    · rw [if_pos hb] at hy; cases hy
    · rw [if_neg hb] at hy
      cases hy
      refine ⟨?_, ?_, ?_, ?_, rfl, rfl, rfl⟩
      · rw [List.all_append, h.load]
        have : loadOk r ((rtGo p).2 ++ [0]) = true := by
          unfold loadOk
          rw [wantTo_snoc, h.want, if_pos rfl]
          have := h.fits
          simpa using this
        simp [this]
      · rw [List.all_append, h.way]
        have : wayOk D ((rtGo p).2 ++ [0]) = true := by
          refine List.all_eq_true.2 fun q hq => ?_
          have hq' : q < (rtGo p).2.length := by simpa using hq
          by_cases he : q + 1 < (rtGo p).2.length
          · have := h.legs q he
            rw [legD_app he]; simpa using this
          · have : q = (rtGo p).2.length - 1 := by omega
            rw [this, hleg]
            have : ¬ D x.spot 0 = -1 := fun e => hb (.inl e)
            simpa using this
        simp [this]
      · rw [timesS_snoc, ht0]
        show timeS r D ((rtGo p).2 ++ [0]) S0 = _
        rw [htime, if_pos (by omega)]
      · show x.cost + D x.spot 0 = _
        have e3 : (rtGo p).2.length = (rtGo p).2.length - 1 + 1 := by omega
        rw [lenTo_snoc, h.cost, e2, e3, rtTo_succ, rtTo_app _ (by omega)]
        simp only [Nat.add_sub_cancel]
        rw [hleg]
        simp; omega
  · intro hn R
    by_cases hb : D x.spot 0 = -1 ∨ r.close < x.now + D x.spot 0
    · rcases hb with hb | hb
      · exact bad_way (q := (rtGo p).2.length - 1) (l := (rtGo p).2 ++ [0]) (by simp) (by simp; omega) (by rw [hleg]; exact hb)
      · exact bad_time ht0 (by rw [htime, if_neg (by omega)])
    · rw [if_neg hb] at hn; cases hn
/- a stop more -/
theorem dv_stop {r : Rd} {D : Nat → Nat → Int} {Z : List Int} {p : List UInt8} {x : Dv} {c : UInt8} (hr : ∀ k, 0 ≤ stopV r k 1) (h : DvAt r D Z p x) (hc : c ≠ 47) (hk : 49 ≤ c.toNat) :
    (∀ y, dvStop r D x (c.toNat - 48) = some y → DvAt r D Z (p ++ [c]) y)
    ∧ (dvStop r D x (c.toNat - 48) = none → ∀ t R, ¬ Good r D Z ((rtGo p).1 ++ ((rtGo p).2 ++ ((c.toNat : Int) - 48) :: t) :: R)) := by
  have hl := (rtGo_len p).2.1
  have hki : (c.toNat : Int) - 48 = ((c.toNat - 48 : Nat) : Int) := by omega
  have hk1 : 1 ≤ c.toNat - 48 := by omega
  have hrt : rtGo (p ++ [c]) = ((rtGo p).1, (rtGo p).2 ++ [(c.toNat : Int) - 48]) := by rw [rtGo_snoc]; unfold rtStep; rw [if_neg hc]
  rw [hki] at hrt ⊢
  generalize c.toNat - 48 = k at *
  have hleg : ∀ t, legD D ((rtGo p).2 ++ (k : Int) :: t) ((rtGo p).2.length - 1) = D x.spot k := fun t => by
    rw [home_leg h (k : Int) (by omega) t]; simp
  obtain ⟨S0, ht0, ht1⟩ := h.time
  have htm : ∀ t, tmGo r D ((rtGo p).2 ++ (k : Int) :: t) S0 ((rtGo p).2.length) = if stopV r k 3 < dvT r D x k then none else some (dvT r D x k + stopV r k 4, x.S.set (k - 1) (dvT r D x k)) := fun t => by
    have e : (rtGo p).2.length = (rtGo p).2.length - 1 + 1 := by omega
    rw [e, tmGo_succ, tmGo_app _ (by omega), ht1]
    exact tmStep_stop (hleg t) (by rw [show (rtGo p).2.length - 1 + 1 = (rtGo p).2.length by omega, getD_end]) (by omega)
  unfold dvStop
  constructor
  · intro y hy
    by_cases hb : D x.spot k = -1 ∨ stopV r k 3 < dvT r D x k ∨ r.load < x.want + stopV r k 1
    · rw [if_pos hb] at hy; cases hy
    · rw [if_neg hb] at hy
      cases hy
      have e2 : ((rtGo p).2 ++ [(k : Int)]).length - 1 = (rtGo p).2.length := by simp
      refine ⟨by rw [hrt]; exact h.load, by rw [hrt]; exact h.way, ⟨S0, by rw [hrt]; exact ht0, ?_⟩, ?_, ?_, ?_, ?_, ?_⟩
      · rw [hrt]; simp only [e2]
        rw [htm [], if_neg (fun e => hb (.inr (.inl e)))]
      · rw [hrt]; simp only
        rw [wantTo_snoc, h.want, if_neg (by omega)]; simp
      · show x.want + stopV r k 1 ≤ r.load
        by_cases e : r.load < x.want + stopV r k 1
        · exact absurd (.inr (.inr e)) hb
        · omega
      · intro q hq
        rw [hrt] at hq ⊢
        simp only at hq ⊢
        by_cases he : q + 1 < (rtGo p).2.length
        · rw [legD_app he]; exact h.legs q he
        · have : q = (rtGo p).2.length - 1 := by simp at hq; omega
          rw [this, hleg []]; exact fun e => hb (.inl e)
      · rw [hrt]; simp only [e2]
        show x.cost + D x.spot k = _
        have e : rtTo D ((rtGo p).2 ++ [(k : Int)]) ((rtGo p).2.length) = rtTo D (rtGo p).2 ((rtGo p).2.length - 1) + D x.spot k := by
          have e3 : (rtGo p).2.length = (rtGo p).2.length - 1 + 1 := by omega
          rw [e3, rtTo_succ, rtTo_app _ (by omega)]
          simp only [Nat.add_sub_cancel]
          rw [hleg []]
        rw [e, h.cost]; omega
      · rw [hrt]; simp only [e2]
        rw [getD_end]
  · intro hn t R
    have hlen : ((rtGo p).2 ++ (k : Int) :: t).length = (rtGo p).2.length + 1 + t.length := by simp; omega
    by_cases hb : D x.spot k = -1 ∨ stopV r k 3 < dvT r D x k ∨ r.load < x.want + stopV r k 1
    · rcases hb with hb | hb | hb
      · exact bad_way (q := (rtGo p).2.length - 1) (l := (rtGo p).2 ++ (k : Int) :: t) (by simp) (by omega) (by rw [hleg]; exact hb)
      · refine bad_time ht0 ?_
        have h1 := tmGo_none r D ((rtGo p).2 ++ (k : Int) :: t) S0 ((rtGo p).2.length) t.length (by rw [htm, if_pos hb])
        unfold timeS
        rw [show ((rtGo p).2 ++ (k : Int) :: t).length - 1 = (rtGo p).2.length + t.length by omega, h1]
      · refine bad_load (l := (rtGo p).2 ++ (k : Int) :: t) (by simp) ?_
        unfold loadOk
        have h1 := wants_pos hr t
        rw [wantTo_app, h.want]
        have e : wantTo r ((k : Int) :: t) = stopV r k 1 + wantTo r t := by
          simp only [wantTo, List.map_cons, List.sum_cons]
          rw [if_neg (by omega)]; simp
        rw [e]
        have : ¬ (x.want + (stopV r k 1 + wantTo r t) ≤ r.load) := by omega
        simpa using this
    · rw [if_neg hb] at hn; cases hn
theorem dv_slash {r : Rd} {D : Nat → Nat → Int} {Z : List Int} {p : List UInt8} {x y : Dv} (hld : 0 ≤ r.load) (h : DvAt r D Z p x) (hy : dvHome r D x = some y) : DvAt r D Z (p ++ [47]) y := by
  obtain ⟨h1, h2, h3, h4, h5, h6, h7⟩ := (dv_home h).1 y hy
  have hrt : rtGo (p ++ [47]) = ((rtGo p).1 ++ [(rtGo p).2 ++ [0]], [0]) := by rw [rtGo_snoc]; rfl
  refine ⟨by rw [hrt]; exact h1, by rw [hrt]; exact h2, ⟨y.S, by rw [hrt]; exact h3, by rw [hrt, h6]; rfl⟩, by rw [hrt, h7]; simp [wantTo], by rw [h7]; exact hld, fun q hq => ?_, ?_, ?_⟩
  · rw [hrt] at hq; simp at hq
  · rw [hrt, h4]; simp [rtTo]
  · rw [hrt, h5]; rfl
/- driven up to a byte, or the plan is no good, however it goes on -/
theorem dv_all {r : Rd} {D : Nat → Nat → Int} {Z : List Int} (hr : ∀ k, 0 ≤ stopV r k 1) (hld : 0 ≤ r.load) (l : List UInt8) : (∀ c ∈ l, c = 47 ∨ 49 ≤ c.toNat) → (∀ x, dvGo r D Z l = some x → DvAt r D Z l x) ∧ (dvGo r D Z l = none → ∀ t, ¬ Good r D Z (routesS (l ++ t))) := by
  refine snoc_ind (P := fun l => (∀ c ∈ l, c = 47 ∨ 49 ≤ c.toNat) → (∀ x, dvGo r D Z l = some x → DvAt r D Z l x) ∧ (dvGo r D Z l = none → ∀ t, ¬ Good r D Z (routesS (l ++ t)))) ?_ ?_ l
  · intro _
    exact ⟨fun x hx => (by cases hx; exact dv_nil hld), fun h => (by cases h)⟩
  · intro l c ih hb
    obtain ⟨i1, i2⟩ := ih (fun x hx => hb x (by simp [hx]))
    rw [dvGo_snoc]
    cases hg : dvGo r D Z l with
    | none => exact ⟨fun x hx => (by cases hx), fun _ t => (by rw [List.append_assoc]; exact i2 hg _)⟩
    | some x =>
      have hx := i1 x hg
      unfold dvStep
      by_cases hc : c = 47
      · simp only [hc, if_true]
        refine ⟨fun y hy => dv_slash hld hx hy, fun hn t => ?_⟩
        obtain ⟨xx, rest, e⟩ := rt_ext (l ++ [47]) t (by simp)
        have hrt : rtGo (l ++ [47]) = ((rtGo l).1 ++ [(rtGo l).2 ++ [0]], [0]) := by rw [rtGo_snoc]; rfl
        rw [hrt] at e
        rw [e, List.append_assoc]
        exact (dv_home hx).2 hn _
      · simp only [hc, if_false]
        have hk : 49 ≤ c.toNat := by
          rcases hb c (by simp) with h | h
          · exact absurd h hc
          · exact h
        refine ⟨fun y hy => (dv_stop hr hx hc hk).1 y hy, fun hn t => ?_⟩
        obtain ⟨xx, rest, e⟩ := rt_ext (l ++ [c]) t (by simp)
        have hrt : rtGo (l ++ [c]) = ((rtGo l).1, (rtGo l).2 ++ [(c.toNat : Int) - 48]) := by rw [rtGo_snoc]; unfold rtStep; rw [if_neg hc]
        rw [hrt] at e
        rw [e]
        have := (dv_stop hr hx hc hk).2 hn (xx ++ [0]) rest
        simpa using this
theorem driven_good {r : Rd} {D : Nat → Nat → Int} {Z : List Int} (hr : ∀ k, 0 ≤ stopV r k 1) (hld : 0 ≤ r.load) {l : List UInt8} (hb : ∀ c ∈ l, c = 47 ∨ 49 ≤ c.toNat) :
    (∀ C S, drivenS r D Z l = some (C, S) → (routesS l).all (loadOk r) = true ∧ (routesS l).all (wayOk D) = true ∧ timesS r D (routesS l) Z = some S ∧ lenTo D (routesS l) = C) ∧ (drivenS r D Z l = none → ¬ Good r D Z (routesS l)) := by
  obtain ⟨h1, h2⟩ := dv_all (Z := Z) (D := D) hr hld l hb
  unfold drivenS
  by_cases hn : l = []
  · rw [if_pos hn]
    subst hn
    refine ⟨fun C S e => ?_, fun e => (by cases e)⟩
    cases e
    exact ⟨rfl, rfl, rfl, rfl⟩
  · rw [if_neg hn]
    have hrs : routesS l = (rtGo l).1 ++ [(rtGo l).2 ++ [0]] := by unfold routesS; rw [if_neg hn]
    cases hg : dvGo r D Z l with
    | none => exact ⟨fun C S e => (by cases e), fun _ => (by have := h2 hg []; simpa using this)⟩
    | some x =>
      have hx := h1 x hg
      cases hh : dvHome r D x with
      | none =>
        simp only [hh]
        refine ⟨fun C S e => (by cases e), fun _ => ?_⟩
        rw [hrs]; exact (dv_home hx).2 hh []
      | some y =>
        simp only [hh]
        refine ⟨fun C S e => ?_, fun e => (by cases e)⟩
        cases e
        obtain ⟨k1, k2, k3, k4, _⟩ := (dv_home hx).1 y hh
        rw [hrs]
        exact ⟨k1, k2, k3, k4.symm⟩
end Go.Proofs.Ytebinaopncclgab
