/- Walks: what is driven and what is shown. -/
import Derived.Test.YtebinaopncclgabGreatDoorJShape
import Derived.Test.YtebinaopncclgabGreatDoorJCall
import Derived.Test.YtebinaopncclgabGreatDoorLaw
import Derived.BigQuiet
import Derived.Test.YtebinaopncclgabGreatDoorGBox
import Derived.ProofKit
import Derived.OpenShut
import Derived.ChangeOld
import Derived.Below
import Derived.Deep.Slices
import Derived.Test.YtebinaopncclgabGreatDoorGNodes
import Derived.Test.YtebinaopncclgabGreatDoorWRange
namespace Go.Proofs.YtebinaopncclgabGreatDoor

structure Dv where
  cost : Int
  spot : Nat
  now : Int
  want : Int
  S : List Int
def dvHome (r : Rd) (D : Nat → Nat → Int) (x : Dv) : Option Dv :=
  if D x.spot 0 = -1 ∨ r.close < x.now + D x.spot 0 then none else some ⟨x.cost + D x.spot 0, 0, 0, 0, x.S⟩
def dvT (r : Rd) (D : Nat → Nat → Int) (x : Dv) (k : Nat) : Int := if x.now + D x.spot k < stopV r k 2 then stopV r k 2 else x.now + D x.spot k
def dvStop (r : Rd) (D : Nat → Nat → Int) (x : Dv) (k : Nat) : Option Dv :=
  if D x.spot k = -1 ∨ stopV r k 3 < dvT r D x k ∨ r.load < x.want + stopV r k 1 then none
  else some ⟨x.cost + D x.spot k, k, dvT r D x k + stopV r k 4, x.want + stopV r k 1, x.S.set (k - 1) (dvT r D x k)⟩
def dvStep (r : Rd) (D : Nat → Nat → Int) (st : Option Dv) (c : UInt8) : Option Dv :=
  match st with
  | none => none
  | some x => if c = 47 then dvHome r D x else dvStop r D x (c.toNat - 48)
def dvGo (r : Rd) (D : Nat → Nat → Int) (Z : List Int) (l : List UInt8) : Option Dv := l.foldl (dvStep r D) (some ⟨0, 0, 0, 0, Z⟩)
theorem dvGo_snoc (r : Rd) (D : Nat → Nat → Int) (Z : List Int) (l : List UInt8) (c : UInt8) : dvGo r D Z (l ++ [c]) = dvStep r D (dvGo r D Z l) c := by simp [dvGo]
theorem dvGo_none (r : Rd) (D : Nat → Nat → Int) (Z : List Int) (l t : List UInt8) (h : dvGo r D Z l = none) : dvGo r D Z (l ++ t) = none := by
  have key : ∀ t : List UInt8, t.foldl (dvStep r D) none = none := by
    intro t; induction t with
    | nil => rfl
    | cons x t ih => simpa [dvStep] using ih
  unfold dvGo at h ⊢
  rw [List.foldl_append, h, key]
def drivenS (r : Rd) (D : Nat → Nat → Int) (Z : List Int) (l : List UInt8) : Option (Int × List Int) :=
  if l = [] then some (0, Z) else match dvGo r D Z l with
    | none => none
    | some x => match dvHome r D x with
      | none => none
      | some y => some (y.cost, y.S)

theorem getD_app {l t : List Int} {i : Nat} (h : i < l.length) : (l ++ t).getD i 0 = l.getD i 0 := by
  rw [List.getD_eq_getElem?_getD, List.getD_eq_getElem?_getD, List.getElem?_append_left h]
theorem getD_end {l : List Int} {x : Int} {t : List Int} : (l ++ x :: t).getD l.length 0 = x := by
  rw [List.getD_eq_getElem?_getD]; simp
theorem legD_app {D : Nat → Nat → Int} {l t : List Int} {q : Nat} (h : q + 1 < l.length) : legD D (l ++ t) q = legD D l q := by
  unfold legD; rw [getD_app (by omega), getD_app h]
theorem rtTo_app {D : Nat → Nat → Int} {l t : List Int} : ∀ q, q < l.length → rtTo D (l ++ t) q = rtTo D l q := by
  intro q
  induction q with
  | zero => intro _; rfl
  | succ q ih => intro h; rw [rtTo_succ, rtTo_succ, ih (by omega), legD_app h]
theorem tmStep_eq {r : Rd} {D : Nat → Nat → Int} {l l' : List Int} {q : Nat} (st : Option (Int × List Int)) (h1 : legD D l q = legD D l' q) (h2 : l.getD (q + 1) 0 = l'.getD (q + 1) 0) : tmStep r D l st q = tmStep r D l' st q := by
  cases st with
  | none => rfl
  | some st =>
    obtain ⟨a, b⟩ := st
    unfold tmStep startS
    revert h1 h2
    generalize legD D l q = d
    generalize l.getD (q + 1) 0 = y
    intro h1 h2
    subst h1 h2
    rfl
theorem tmStep_stop {r : Rd} {D : Nat → Nat → Int} {l S : List Int} {q k : Nat} {t d : Int} (h1 : legD D l q = d) (h2 : l.getD (q + 1) 0 = (k : Int)) (hk : k ≠ 0) : tmStep r D l (some (t, S)) q = if stopV r k 3 < (if t + d < stopV r k 2 then stopV r k 2 else t + d) then none else some ((if t + d < stopV r k 2 then stopV r k 2 else t + d) + stopV r k 4, S.set (k - 1) (if t + d < stopV r k 2 then stopV r k 2 else t + d)) := by
  unfold tmStep startS
  revert h1 h2
  generalize legD D l q = d'
  generalize l.getD (q + 1) 0 = y
  intro h1 h2
  subst h1 h2
  simp only
  rw [if_neg (by omega)]
  rfl
theorem tmGo_app {r : Rd} {D : Nat → Nat → Int} {l t S : List Int} : ∀ q, q < l.length → tmGo r D (l ++ t) S q = tmGo r D l S q := by
  intro q
  induction q with
  | zero => intro _; rfl
  | succ q ih =>
    intro h
    rw [tmGo_succ, tmGo_succ, ih (by omega)]
    exact tmStep_eq _ (legD_app h) (getD_app h)
/- the routes of a text that goes on -/
theorem rt_ext (p t : List UInt8) (h : p ++ t ≠ []) : ∃ x rest, routesS (p ++ t) = (rtGo p).1 ++ ((rtGo p).2 ++ x ++ [0]) :: rest := by
  have key : ∀ t : List UInt8, (∃ x, (rtGo (p ++ t)).1 = (rtGo p).1 ∧ (rtGo (p ++ t)).2 = (rtGo p).2 ++ x) ∨ ∃ x rest, (rtGo (p ++ t)).1 = (rtGo p).1 ++ ((rtGo p).2 ++ x ++ [0]) :: rest := by
    intro t
    refine snoc_ind (P := fun t => (∃ x, (rtGo (p ++ t)).1 = (rtGo p).1 ∧ (rtGo (p ++ t)).2 = (rtGo p).2 ++ x) ∨ ∃ x rest, (rtGo (p ++ t)).1 = (rtGo p).1 ++ ((rtGo p).2 ++ x ++ [0]) :: rest) ?_ ?_ t
    · exact .inl ⟨[], by simp, by simp⟩
    · intro t c ih
      rw [← List.append_assoc, rtGo_snoc]
      unfold rtStep
      by_cases hc : c = 47
      · rw [if_pos hc]
        rcases ih with ⟨x, h1, h2⟩ | ⟨x, rest, h1⟩
        · exact .inr ⟨x, [], by simp only [h1, h2]⟩
        · refine .inr ⟨x, rest ++ [(rtGo (p ++ t)).2 ++ [0]], ?_⟩
          simp only [h1]; simp
      · rw [if_neg hc]
        rcases ih with ⟨x, h1, h2⟩ | ⟨x, rest, h1⟩
        · exact .inl ⟨x ++ [(c.toNat : Int) - 48], h1, by simp only [h2]; simp⟩
        · exact .inr ⟨x, rest, h1⟩
  unfold routesS
  rw [if_neg h]
  rcases key t with ⟨x, h1, h2⟩ | ⟨x, rest, h1⟩
  · exact ⟨x, [], by rw [h1, h2]⟩
  · refine ⟨x, rest ++ [(rtGo (p ++ t)).2 ++ [0]], ?_⟩
    rw [h1]; simp

/- routes that a plan may have: none too heavy, all ways there, none late -/
def Good (r : Rd) (D : Nat → Nat → Int) (Z : List Int) (L : List (List Int)) : Prop := L.all (loadOk r) = true ∧ L.all (wayOk D) = true ∧ timesS r D L Z ≠ none
theorem bad_load {r : Rd} {D : Nat → Nat → Int} {Z : List Int} {L : List (List Int)} {l : List Int} (hm : l ∈ L) (h : loadOk r l = false) : ¬ Good r D Z L := fun g => by
  have := List.all_eq_true.1 g.1 l hm; rw [h] at this; cases this
theorem bad_way {r : Rd} {D : Nat → Nat → Int} {Z : List Int} {L : List (List Int)} {l : List Int} {q : Nat} (hm : l ∈ L) (hq : q + 1 < l.length) (h : legD D l q = -1) : ¬ Good r D Z L := fun g => by
  have h1 := List.all_eq_true.1 g.2.1 l hm
  have h2 := List.all_eq_true.1 h1 q (by simp; omega)
  rw [h] at h2; simp at h2
theorem bad_time {r : Rd} {D : Nat → Nat → Int} {Z S : List Int} {L R : List (List Int)} {l : List Int} (h0 : timesS r D L Z = some S) (h : timeS r D l S = none) : ¬ Good r D Z (L ++ l :: R) := fun g => by
  have h1 := timesS_none r D (L ++ [l]) R Z (by rw [timesS_snoc, h0]; exact h)
  exact g.2.2 (by rw [show L ++ l :: R = L ++ [l] ++ R by simp]; exact h1)
theorem wants_pos {r : Rd} (hr : ∀ k, 0 ≤ stopV r k 1) (l : List Int) : 0 ≤ wantTo r l := by
  induction l with
  | nil => simp [wantTo]
  | cons x t ih =>
    have h1 := hr x.toNat
    unfold wantTo at ih ⊢
    simp only [List.map_cons, List.sum_cons]
    split <;> omega
theorem wantTo_app (r : Rd) (a b : List Int) : wantTo r (a ++ b) = wantTo r a + wantTo r b := by simp [wantTo]

/- a plan driven up to some byte -/
structure DvAt (r : Rd) (D : Nat → Nat → Int) (Z : List Int) (p : List UInt8) (x : Dv) : Prop where
  load : (rtGo p).1.all (loadOk r) = true
  way : (rtGo p).1.all (wayOk D) = true
  time : ∃ S0, timesS r D (rtGo p).1 Z = some S0 ∧ tmGo r D (rtGo p).2 S0 ((rtGo p).2.length - 1) = some (x.now, x.S)
  want : wantTo r (rtGo p).2 = x.want
  fits : x.want ≤ r.load
  legs : ∀ q, q + 1 < (rtGo p).2.length → legD D (rtGo p).2 q ≠ -1
  cost : x.cost = lenTo D (rtGo p).1 + rtTo D (rtGo p).2 ((rtGo p).2.length - 1)
  last : (rtGo p).2.getD ((rtGo p).2.length - 1) 0 = x.spot
theorem dv_nil {r : Rd} {D : Nat → Nat → Int} {Z : List Int} (hl : 0 ≤ r.load) : DvAt r D Z [] ⟨0, 0, 0, 0, Z⟩ :=
  ⟨rfl, rfl, ⟨Z, rfl, rfl⟩, by simp [rtGo, wantTo], hl, fun q h => absurd h (by simp [rtGo]), by simp [rtGo, lenTo, rtTo], rfl⟩
theorem home_leg {r : Rd} {D : Nat → Nat → Int} {Z : List Int} {p : List UInt8} {x : Dv} (h : DvAt r D Z p x) (k : Int) (_hk : 0 ≤ k) (t : List Int) : legD D ((rtGo p).2 ++ k :: t) ((rtGo p).2.length - 1) = D x.spot k.toNat := by
  have hl := (rtGo_len p).2.1
  have h1 := h.last
  unfold legD
  rw [getD_app (by omega), h1, show (rtGo p).2.length - 1 + 1 = (rtGo p).2.length by omega, getD_end]; simp
/- back home -/
theorem dv_home {r : Rd} {D : Nat → Nat → Int} {Z : List Int} {p : List UInt8} {x : Dv} (h : DvAt r D Z p x) :
    (∀ y, dvHome r D x = some y → ((rtGo p).1 ++ [(rtGo p).2 ++ [0]]).all (loadOk r) = true ∧ ((rtGo p).1 ++ [(rtGo p).2 ++ [0]]).all (wayOk D) = true ∧ timesS r D ((rtGo p).1 ++ [(rtGo p).2 ++ [0]]) Z = some y.S ∧ y.cost = lenTo D ((rtGo p).1 ++ [(rtGo p).2 ++ [0]]) ∧ y.spot = 0 ∧ y.now = 0 ∧ y.want = 0)
    ∧ (dvHome r D x = none → ∀ R, ¬ Good r D Z ((rtGo p).1 ++ ((rtGo p).2 ++ [0]) :: R)) := by
  have hl := (rtGo_len p).2.1
  have hleg := home_leg h 0 (by omega) []
  obtain ⟨S0, ht0, ht1⟩ := h.time
  have htm : tmGo r D ((rtGo p).2 ++ [0]) S0 ((rtGo p).2.length) = some (x.now + D x.spot 0, x.S) := by
    have e : (rtGo p).2.length = (rtGo p).2.length - 1 + 1 := by omega
    rw [e, tmGo_succ, tmGo_app _ (by omega), ht1]
    simp only [tmStep]
    rw [show (rtGo p).2.length - 1 + 1 = (rtGo p).2.length by omega, getD_end, if_pos rfl, hleg]; rfl
  have e2 : ((rtGo p).2 ++ [(0 : Int)]).length - 1 = (rtGo p).2.length := by simp
  have htime : timeS r D ((rtGo p).2 ++ [0]) S0 = if x.now + D x.spot 0 ≤ r.close then some x.S else none := by
    unfold timeS
    rw [e2, htm]
  unfold dvHome
  constructor
  · intro y hy
    by_cases hb : D x.spot 0 = -1 ∨ r.close < x.now + D x.spot 0
    · rw [if_pos hb] at hy; cases hy
    · rw [if_neg hb] at hy
      cases hy
      refine ⟨?_, ?_, ?_, ?_, rfl, rfl, rfl⟩
      · rw [List.all_append, h.load]
        have : loadOk r ((rtGo p).2 ++ [0]) = true := by
          unfold loadOk
          rw [wantTo_snoc, h.want, if_pos rfl]
          have := h.fits
          simpa using this
        simp [this]
      · rw [List.all_append, h.way]
        have : wayOk D ((rtGo p).2 ++ [0]) = true := by
          refine List.all_eq_true.2 fun q hq => ?_
          have hq' : q < (rtGo p).2.length := by simpa using hq
          by_cases he : q + 1 < (rtGo p).2.length
          · have := h.legs q he
            rw [legD_app he]; simpa using this
          · have : q = (rtGo p).2.length - 1 := by omega
            rw [this, hleg]
            have : ¬ D x.spot 0 = -1 := fun e => hb (.inl e)
            simpa using this
        simp [this]
      · rw [timesS_snoc, ht0]
        show timeS r D ((rtGo p).2 ++ [0]) S0 = _
        rw [htime, if_pos (by omega)]
      · show x.cost + D x.spot 0 = _
        have e3 : (rtGo p).2.length = (rtGo p).2.length - 1 + 1 := by omega
        rw [lenTo_snoc, h.cost, e2, e3, rtTo_succ, rtTo_app _ (by omega)]
        simp only [Nat.add_sub_cancel]
        rw [hleg]
        simp; omega
  · intro hn R
    by_cases hb : D x.spot 0 = -1 ∨ r.close < x.now + D x.spot 0
    · rcases hb with hb | hb
      · exact bad_way (q := (rtGo p).2.length - 1) (l := (rtGo p).2 ++ [0]) (by simp) (by simp; omega) (by rw [hleg]; exact hb)
      · exact bad_time ht0 (by rw [htime, if_neg (by omega)])
    · rw [if_neg hb] at hn; cases hn
/- a stop more -/
theorem dv_stop {r : Rd} {D : Nat → Nat → Int} {Z : List Int} {p : List UInt8} {x : Dv} {c : UInt8} (hr : ∀ k, 0 ≤ stopV r k 1) (h : DvAt r D Z p x) (hc : c ≠ 47) (hk : 49 ≤ c.toNat) :
    (∀ y, dvStop r D x (c.toNat - 48) = some y → DvAt r D Z (p ++ [c]) y)
    ∧ (dvStop r D x (c.toNat - 48) = none → ∀ t R, ¬ Good r D Z ((rtGo p).1 ++ ((rtGo p).2 ++ ((c.toNat : Int) - 48) :: t) :: R)) := by
  have hl := (rtGo_len p).2.1
  have hki : (c.toNat : Int) - 48 = ((c.toNat - 48 : Nat) : Int) := by omega
  have hk1 : 1 ≤ c.toNat - 48 := by omega
  have hrt : rtGo (p ++ [c]) = ((rtGo p).1, (rtGo p).2 ++ [(c.toNat : Int) - 48]) := by rw [rtGo_snoc]; unfold rtStep; rw [if_neg hc]
  rw [hki] at hrt ⊢
  generalize c.toNat - 48 = k at *
  have hleg : ∀ t, legD D ((rtGo p).2 ++ (k : Int) :: t) ((rtGo p).2.length - 1) = D x.spot k := fun t => by
    rw [home_leg h (k : Int) (by omega) t]; simp
  obtain ⟨S0, ht0, ht1⟩ := h.time
  have htm : ∀ t, tmGo r D ((rtGo p).2 ++ (k : Int) :: t) S0 ((rtGo p).2.length) = if stopV r k 3 < dvT r D x k then none else some (dvT r D x k + stopV r k 4, x.S.set (k - 1) (dvT r D x k)) := fun t => by
    have e : (rtGo p).2.length = (rtGo p).2.length - 1 + 1 := by omega
    rw [e, tmGo_succ, tmGo_app _ (by omega), ht1]
    exact tmStep_stop (hleg t) (by rw [show (rtGo p).2.length - 1 + 1 = (rtGo p).2.length by omega, getD_end]) (by omega)
  unfold dvStop
  constructor
  · intro y hy
    by_cases hb : D x.spot k = -1 ∨ stopV r k 3 < dvT r D x k ∨ r.load < x.want + stopV r k 1
    · rw [if_pos hb] at hy; cases hy
    · rw [if_neg hb] at hy
      cases hy
      have e2 : ((rtGo p).2 ++ [(k : Int)]).length - 1 = (rtGo p).2.length := by simp
      refine ⟨by rw [hrt]; exact h.load, by rw [hrt]; exact h.way, ⟨S0, by rw [hrt]; exact ht0, ?_⟩, ?_, ?_, ?_, ?_, ?_⟩
      · rw [hrt]; simp only [e2]
        rw [htm [], if_neg (fun e => hb (.inr (.inl e)))]
      · rw [hrt]; simp only
        rw [wantTo_snoc, h.want, if_neg (by omega)]; simp
      · show x.want + stopV r k 1 ≤ r.load
        by_cases e : r.load < x.want + stopV r k 1
        · exact absurd (.inr (.inr e)) hb
        · omega
      · intro q hq
        rw [hrt] at hq ⊢
        simp only at hq ⊢
        by_cases he : q + 1 < (rtGo p).2.length
        · rw [legD_app he]; exact h.legs q he
        · have : q = (rtGo p).2.length - 1 := by simp at hq; omega
          rw [this, hleg []]; exact fun e => hb (.inl e)
      · rw [hrt]; simp only [e2]
        show x.cost + D x.spot k = _
        have e : rtTo D ((rtGo p).2 ++ [(k : Int)]) ((rtGo p).2.length) = rtTo D (rtGo p).2 ((rtGo p).2.length - 1) + D x.spot k := by
          have e3 : (rtGo p).2.length = (rtGo p).2.length - 1 + 1 := by omega
          rw [e3, rtTo_succ, rtTo_app _ (by omega)]
          simp only [Nat.add_sub_cancel]
          rw [hleg []]
        rw [e, h.cost]; omega
      · rw [hrt]; simp only [e2]
        rw [getD_end]
  · intro hn t R
    have hlen : ((rtGo p).2 ++ (k : Int) :: t).length = (rtGo p).2.length + 1 + t.length := by simp; omega
    by_cases hb : D x.spot k = -1 ∨ stopV r k 3 < dvT r D x k ∨ r.load < x.want + stopV r k 1
    · rcases hb with hb | hb | hb
      · exact bad_way (q := (rtGo p).2.length - 1) (l := (rtGo p).2 ++ (k : Int) :: t) (by simp) (by omega) (by rw [hleg]; exact hb)
      · refine bad_time ht0 ?_
        have h1 := tmGo_none r D ((rtGo p).2 ++ (k : Int) :: t) S0 ((rtGo p).2.length) t.length (by rw [htm, if_pos hb])
        unfold timeS
        rw [show ((rtGo p).2 ++ (k : Int) :: t).length - 1 = (rtGo p).2.length + t.length by omega, h1]
      · refine bad_load (l := (rtGo p).2 ++ (k : Int) :: t) (by simp) ?_
        unfold loadOk
        have h1 := wants_pos hr t
        rw [wantTo_app, h.want]
        have e : wantTo r ((k : Int) :: t) = stopV r k 1 + wantTo r t := by
          simp only [wantTo, List.map_cons, List.sum_cons]
          rw [if_neg (by omega)]; simp
        rw [e]
        have : ¬ (x.want + (stopV r k 1 + wantTo r t) ≤ r.load) := by omega
        simpa using this
    · rw [if_neg hb] at hn; cases hn
theorem dv_slash {r : Rd} {D : Nat → Nat → Int} {Z : List Int} {p : List UInt8} {x y : Dv} (hld : 0 ≤ r.load) (h : DvAt r D Z p x) (hy : dvHome r D x = some y) : DvAt r D Z (p ++ [47]) y := by
  obtain ⟨h1, h2, h3, h4, h5, h6, h7⟩ := (dv_home h).1 y hy
  have hrt : rtGo (p ++ [47]) = ((rtGo p).1 ++ [(rtGo p).2 ++ [0]], [0]) := by rw [rtGo_snoc]; rfl
  refine ⟨by rw [hrt]; exact h1, by rw [hrt]; exact h2, ⟨y.S, by rw [hrt]; exact h3, by rw [hrt, h6]; rfl⟩, by rw [hrt, h7]; simp [wantTo], by rw [h7]; exact hld, fun q hq => ?_, ?_, ?_⟩
  · rw [hrt] at hq; simp at hq
  · rw [hrt, h4]; simp [rtTo]
  · rw [hrt, h5]; rfl
/- driven up to a byte, or the plan is no good, however it goes on -/
theorem dv_all {r : Rd} {D : Nat → Nat → Int} {Z : List Int} (hr : ∀ k, 0 ≤ stopV r k 1) (hld : 0 ≤ r.load) (l : List UInt8) : (∀ c ∈ l, c = 47 ∨ 49 ≤ c.toNat) → (∀ x, dvGo r D Z l = some x → DvAt r D Z l x) ∧ (dvGo r D Z l = none → ∀ t, ¬ Good r D Z (routesS (l ++ t))) := by
  refine snoc_ind (P := fun l => (∀ c ∈ l, c = 47 ∨ 49 ≤ c.toNat) → (∀ x, dvGo r D Z l = some x → DvAt r D Z l x) ∧ (dvGo r D Z l = none → ∀ t, ¬ Good r D Z (routesS (l ++ t)))) ?_ ?_ l
  · intro _
    exact ⟨fun x hx => (by cases hx; exact dv_nil hld), fun h => (by cases h)⟩
  · intro l c ih hb
    obtain ⟨i1, i2⟩ := ih (fun x hx => hb x (by simp [hx]))
    rw [dvGo_snoc]
    cases hg : dvGo r D Z l with
    | none => exact ⟨fun x hx => (by cases hx), fun _ t => (by rw [List.append_assoc]; exact i2 hg _)⟩
    | some x =>
      have hx := i1 x hg
      unfold dvStep
      by_cases hc : c = 47
      · simp only [hc, if_true]
        refine ⟨fun y hy => dv_slash hld hx hy, fun hn t => ?_⟩
        obtain ⟨xx, rest, e⟩ := rt_ext (l ++ [47]) t (by simp)
        have hrt : rtGo (l ++ [47]) = ((rtGo l).1 ++ [(rtGo l).2 ++ [0]], [0]) := by rw [rtGo_snoc]; rfl
        rw [hrt] at e
        rw [e, List.append_assoc]
        exact (dv_home hx).2 hn _
      · simp only [hc, if_false]
        have hk : 49 ≤ c.toNat := by
          rcases hb c (by simp) with h | h
          · exact absurd h hc
          · exact h
        refine ⟨fun y hy => (dv_stop hr hx hc hk).1 y hy, fun hn t => ?_⟩
        obtain ⟨xx, rest, e⟩ := rt_ext (l ++ [c]) t (by simp)
        have hrt : rtGo (l ++ [c]) = ((rtGo l).1, (rtGo l).2 ++ [(c.toNat : Int) - 48]) := by rw [rtGo_snoc]; unfold rtStep; rw [if_neg hc]
        rw [hrt] at e
        rw [e]
        have := (dv_stop hr hx hc hk).2 hn (xx ++ [0]) rest
        simpa using this
theorem driven_good {r : Rd} {D : Nat → Nat → Int} {Z : List Int} (hr : ∀ k, 0 ≤ stopV r k 1) (hld : 0 ≤ r.load) {l : List UInt8} (hb : ∀ c ∈ l, c = 47 ∨ 49 ≤ c.toNat) :
    (∀ C S, drivenS r D Z l = some (C, S) → (routesS l).all (loadOk r) = true ∧ (routesS l).all (wayOk D) = true ∧ timesS r D (routesS l) Z = some S ∧ lenTo D (routesS l) = C) ∧ (drivenS r D Z l = none → ¬ Good r D Z (routesS l)) := by
  obtain ⟨h1, h2⟩ := dv_all (Z := Z) (D := D) hr hld l hb
  unfold drivenS
  by_cases hn : l = []
  · rw [if_pos hn]
    subst hn
    refine ⟨fun C S e => ?_, fun e => (by cases e)⟩
    cases e
    exact ⟨rfl, rfl, rfl, rfl⟩
  · rw [if_neg hn]
    have hrs : routesS l = (rtGo l).1 ++ [(rtGo l).2 ++ [0]] := by unfold routesS; rw [if_neg hn]
    cases hg : dvGo r D Z l with
    | none => exact ⟨fun C S e => (by cases e), fun _ => (by have := h2 hg []; simpa using this)⟩
    | some x =>
      have hx := h1 x hg
      cases hh : dvHome r D x with
      | none =>
        simp only [hh]
        refine ⟨fun C S e => (by cases e), fun _ => ?_⟩
        rw [hrs]; exact (dv_home hx).2 hh []
      | some y =>
        simp only [hh]
        refine ⟨fun C S e => ?_, fun e => (by cases e)⟩
        cases e
        obtain ⟨k1, k2, k3, k4, _⟩ := (dv_home hx).1 y hh
        rw [hrs]
        exact ⟨k1, k2, k3, k4.symm⟩
end Go.Proofs.YtebinaopncclgabGreatDoor
namespace Go.Proofs.YtebinaopncclgabGreatDoor
open Go.RowKit Go.IntWalk

theorem cnt_mono (l : List UInt8) (k d : Nat) : cntS (l.take k) d ≤ cntS l d := by
  have h : cntS l d = cntS (l.take k) d + cntS (l.drop k) d := by
    unfold cntS
    rw [← List.length_append, ← List.filter_append, List.take_append_drop]
  omega
theorem fault_plan {n : Nat} {l : List UInt8} (h : isPlanS n l = false) : textFaultS n l = 5 := by unfold textFaultS; rw [if_pos h]
theorem fault_twice {n d : Nat} {l : List UInt8} (hd : d < n) (h : 1 < cntS l (d + 1)) : textFaultS n l ≠ 0 := fun e => by
  have := (fine_size e).2.2 d hd; omega
theorem fault_end {n : Nat} {l : List UInt8} (hp : isPlanS n l = true) (hc : ∀ d, d < n → cntS l (d + 1) ≤ 1) : (textFaultS n l = 0) ↔ cntAll l n = n := by
  constructor
  · intro h
    have h1 := (fine_size h).2.2
    have key : ∀ m, m ≤ n → cntAll l m = m := by
      intro m
      induction m with
      | zero => intro _; rfl
      | succ m ih => intro hm; unfold cntAll; rw [ih (by omega), h1 m (by omega)]
    exact key n (Nat.le_refl _)
  · intro h
    have h2 : ∀ d, d < n → cntS l (d + 1) ≠ 0 := by
      intro d hd e0
      have key : ∀ m, m ≤ n → cntAll l m ≤ m ∧ (d < m → cntAll l m < m) := by
        intro m
        induction m with
        | zero => intro _; exact ⟨Nat.le_refl _, fun h => absurd h (by omega)⟩
        | succ m ih =>
          intro hm
          obtain ⟨i1, i2⟩ := ih (by omega)
          have h3 := hc m (by omega)
          unfold cntAll
          refine ⟨by omega, fun hdm => ?_⟩
          by_cases he : d = m
          · subst he; omega
          · have := i2 (by omega); omega
      have := (key n (Nat.le_refl _)).2 hd
      omega
    unfold textFaultS
    rw [if_neg (by rw [hp]; simp), if_neg, if_neg]
    · intro h7
      obtain ⟨d, h8, h9⟩ := List.any_eq_true.1 h7
      exact h2 d (by simpa using h8) (by simpa using h9)
    · intro h6
      obtain ⟨d, h8, h9⟩ := List.any_eq_true.1 h6
      have := hc d (by simpa using h8)
      have : 1 < cntS l (d + 1) := by simpa using h9
      omega
def dools (l : List UInt8) (n : Nat) : List Value := (List.range n).map fun d => Value.bool (decide (0 < cntS l (d + 1)))
theorem dools_at {l : List UInt8} {n d : Nat} (h : d < n) : (dools l n)[d]? = some (.bool (decide (0 < cntS l (d + 1)))) := by simp [dools, h]
theorem dools_zero (n : Nat) : dools [] n = List.replicate n (.bool false) := by
  apply List.ext_getElem?
  intro i
  by_cases hi : i < n
  · rw [dools_at hi, List.getElem?_replicate, if_pos hi]; rfl
  · rw [List.getElem?_eq_none (by simp [dools]; omega), List.getElem?_eq_none (by simp; omega)]
theorem dools_slash {l : List UInt8} {n : Nat} {c : UInt8} (hc : c = 47) : dools (l ++ [c]) n = dools l n := by
  unfold dools
  apply List.map_congr_left
  intro d _
  rw [cnt_snoc, if_neg (by rw [hc]; show ¬ (47 = 48 + (d + 1)); omega)]; simp
theorem dools_set {l : List UInt8} {n d : Nat} {c : UInt8} (hc : c.toNat = 48 + (d + 1)) : (dools l n).set d (.bool true) = dools (l ++ [c]) n := by
  apply List.ext_getElem?
  intro i
  by_cases hi : i < n
  · rw [List.getElem?_set]
    by_cases hid : d = i
    · subst hid
      rw [if_pos rfl, if_pos (by simp [dools]; omega), dools_at hi, cnt_snoc, if_pos hc]; simp
    · rw [if_neg hid, dools_at hi, dools_at hi, cnt_snoc, if_neg (by omega)]; simp
  · rw [List.getElem?_eq_none (by simp [dools]; omega), List.getElem?_eq_none (by simp [dools]; omega)]
theorem cntAll_set {l : List UInt8} {n d : Nat} {c : UInt8} (hc : c.toNat = 48 + (d + 1)) (hd : d < n) : cntAll (l ++ [c]) n = cntAll l n + 1 := by
  have key : ∀ m, cntAll (l ++ [c]) m = cntAll l m + (if d < m then 1 else 0) := by
    intro m
    induction m with
    | zero => rfl
    | succ m ih =>
      unfold cntAll
      rw [ih, cnt_snoc]
      by_cases h : d = m
      · subst h
        rw [if_pos hc, if_neg (by omega), if_pos (by omega)]; omega
      · rw [if_neg (by omega : ¬ c.toNat = 48 + (m + 1))]
        by_cases h2 : d < m
        · rw [if_pos h2, if_pos (by omega)]; omega
        · rw [if_neg h2, if_neg (by omega)]; omega
  rw [key, if_pos hd]
theorem cntAll_nil (n : Nat) : cntAll [] n = 0 := by
  induction n with
  | zero => rfl
  | succ n ih => unfold cntAll; rw [ih]; rfl
theorem Tryz.infoBool : (Tryz.prog.info? 4).map (fun i => (i.zero, i.size, i.bytes)) = some (some (.bool false), 1, 1) := by kernel_rfl

set_option maxRecDepth 100000 in
set_option maxHeartbeats 4000000 in
theorem kwhole_any (n : Nat) (s : ByteArray) (w : World) (hn : n ≤ 7) (hs : s.size ≤ maxLen) :
    Calls Tryz.prog 26 #[.string s, .int .i64 n] w fun e w' => e = .returned (.bool (decide (textFaultS n s.data.toList = 0))) ∧ Below w.heap.size w w' := by
  obtain ⟨i0, hi, hz0, hz1, hz2⟩ := info_parts Tryz.infoBool
  unfold maxLen at hs
  go_enter Tryz.func26, Tryz.ntmps26
  go_wp2_with (at_make; refine wpList_make_full _ rfl _ _ 100 rfl w.heap.size 4 i0 (.bool false) 1 Tryz.underlying100 hi hz0 hz1 .i64 .i64 _ _ n rfl rfl ?m1 ?m2 ?m3 ?m4 ?m5 ?_)
  case m1 => rfl
  case m2 => rfl
  case m3 => rw [hz2]; omega
  case m4 => unfold maxLen; omega
  case m5 => exact Nat.le_refl _
  intro w1 hown1 hgrow1
  have hbel1 : Below w.heap.size w w1 := (Below.refl _ _).grown hgrow1 (Nat.le_refl _) (by simp)
  have hown1' : w1.ownsRow w.heap.size 4 1 (.slice (some ⟨w.heap.size, 0, none⟩) n n) n (dools (s.data.toList.take 0) n) := by
    have e : (madeCells #[Value.bool false] n).toList = dools (s.data.toList.take 0) n := by rw [toList_madeCells_one, List.take_zero, dools_zero]
    rw [← e]; exact hown1
  clear hown1 hgrow1
  go_wp2_with fail
  go_loopw [6, 7, 8] (fun st la i wr => ∃ (k m q : Nat) (c : UInt8), i = .int .i64 k ∧ st = .int .i64 q ∧ la = .int .u8 c.toNat ∧ k ≤ s.size ∧ q ≤ k ∧ Hid (q = cntAll (s.data.toList.take k) n) ∧ Hid (plGo n (s.data.toList.take k) = some m) ∧ Hid (c = 47 ↔ m = 0) ∧ Hid (c = 47 → 0 < k → k < s.size) ∧ Hid (∀ d, d < n → cntS (s.data.toList.take k) (d + 1) ≤ 1) ∧ Hid (wr.ownsRow w.heap.size 4 1 (.slice (some ⟨w.heap.size, 0, none⟩) n n) n (dools (s.data.toList.take k) n)) ∧ Hid (Below w.heap.size w wr)) (fun _ _ i _ => s.size - (intOf i).toNat)
  case atStart => exact ⟨0, 0, 0, 47, rfl, rfl, rfl, by omega, by omega, (cntAll_nil n).symm, rfl, by show _ ↔ _; simp, fun _ h => absurd h (by omega), fun d _ => by show cntS [] _ ≤ 1; simp [cntS], hown1', hbel1⟩
  case round =>
    clear hown1' hbel1
    obtain ⟨k, m, q, c, rfl, rfl, rfl, hk, hq, HQ, HG, HM, HE, HC, HO, HB⟩ := hrel
    by_cases hlt : k < s.size
    · have HT := hid (take_snoc s k hlt)
      have hb : s[k].toNat < 256 := s[k].toNat_lt
      have HS : Hid (plGo n (s.data.toList.take (k + 1)) = plStep n (some m) s[k]) := by show _ = _; rw [HT.out, plGo_snoc, HG.out]
      by_cases hc : s[k].toNat = 47
      · have hc8 : s[k] = 47 := UInt8.toNat_inj.1 (by rw [hc]; rfl)
        have e1 : ((s[k].toNat : Int) == 47) = true := by simp [hc]
        by_cases hl : c = 47
        · have HX : Hid (decide (textFaultS n s.data.toList = 0) = false) := by
            have hm0 := HM.out.1 hl
            have h5 := fault_plan (isPlan_no (n := n) (k := k + 1) (l := s.data.toList) (by rw [HS.out]; unfold plStep; simp [hc8, hm0]))
            show _ = _
            rw [h5]; rfl
          subst hl
          clear hc8 hc HS
          go_wp2_with go_in
          all_goals
            go_ret
            exact ⟨ret_bool HX.out.symm, HB.out⟩
        · have hcn : c.toNat ≠ 47 := fun e => hl (UInt8.toNat_inj.1 (by rw [e]; rfl))
          have e2 : ((c.toNat : Int) == 47) = false := by rw [beq_eq_false_iff_ne]; omega
          have hm0 : m ≠ 0 := fun e => hl (HM.out.2 e)
          have HP0 : Hid (plGo n (s.data.toList.take (k + 1)) = some 0) := by show _ = _; rw [HS.out]; unfold plStep; simp [hc8, hm0]
          by_cases hend : k + 1 = s.size
          · have HX : Hid (decide (textFaultS n s.data.toList = 0) = false) := by
              have h5 := fault_plan (n := n) (l := s.data.toList) (by
                have h := HP0.out
                rw [take_all s (k + 1) (by omega)] at h
                unfold isPlanS
                rw [h]
                have hne : s.data.toList ≠ [] := fun e => by
                  have h6 : s.data.toList.length = s.size := by simp
                  rw [e] at h6
                  have h7 : (0 : Nat) = s.size := h6
                  omega
                simpa using hne)
              show _ = _
              rw [h5]; rfl
            have e3 : ((k : Int) + 1 == (s.size : Int)) = true := by simp; omega
            clear hc8 hc HS hm0 hcn hend
            go_wp2_with go_in
            all_goals
              go_ret
              exact ⟨ret_bool HX.out.symm, HB.out⟩
          · have e3 : ((k : Int) + 1 == (s.size : Int)) = false := by simp; omega
            have HQ2 : Hid (q = cntAll (s.data.toList.take (k + 1)) n) := by show _ = _; rw [HT.out, cntAll_slash hc8]; exact HQ.out
            have HC2 : Hid (∀ d, d < n → cntS (s.data.toList.take (k + 1)) (d + 1) ≤ 1) := fun d hd => by
              rw [HT.out, cnt_snoc, if_neg (by rw [hc]; show ¬ (47 = 48 + (d + 1)); omega)]; have := HC.out d hd; omega
            have HO2 : Hid (wr.ownsRow w.heap.size 4 1 (.slice (some ⟨w.heap.size, 0, none⟩) n n) n (dools (s.data.toList.take (k + 1)) n)) := by
              show World.ownsRow _ _ _ _ _ _ _
              rw [HT.out, dools_slash hc8]; exact HO.out
            have HCC := hid hc8
            clear hc8 hc HS hm0 hcn HQ HC HO
            go_wp2_with go_in
            go_roundw
            case rel => exact ⟨k + 1, 0, q, s[k], by go_num, rfl, rfl, by omega, by omega, HQ2, HP0, ⟨fun _ => rfl, fun _ => HCC.out⟩, fun _ _ => by omega, HC2, HO2, HB⟩
            case measure => simp [intOf]; omega
      · have hc8 : s[k] ≠ 47 := fun e => hc (by rw [e]; rfl)
        have e1 : ((s[k].toNat : Int) == 47) = false := by simp; omega
        by_cases hbad : s[k].toNat < 49 ∨ n < s[k].toNat - 48
        · have HX : Hid (decide (textFaultS n s.data.toList = 0) = false) := by
            have h5 := fault_plan (isPlan_no (n := n) (k := k + 1) (l := s.data.toList) (by rw [HS.out]; unfold plStep; simp only [hc8, if_false]; rw [if_pos hbad]))
            show _ = _
            rw [h5]; rfl
          clear hc8 HS
          rcases hbad with h49 | hbig
          · go_wp2_with go_in
            all_goals
              go_ret
              exact ⟨ret_bool HX.out.symm, HB.out⟩
          · by_cases h49 : s[k].toNat < 49
            · go_wp2_with go_in
              all_goals
                go_ret
                exact ⟨ret_bool HX.out.symm, HB.out⟩
            · go_wp2_with go_in
              all_goals
                go_ret
                exact ⟨ret_bool HX.out.symm, HB.out⟩
        · obtain ⟨d, hd⟩ : ∃ d, s[k].toNat = 48 + (d + 1) := ⟨s[k].toNat - 49, by omega⟩
          have hdn : d < n := by omega
          have HP1 : Hid (plGo n (s.data.toList.take (k + 1)) = some (m + 1)) := by show _ = _; rw [HS.out]; unfold plStep; simp only [hc8, if_false]; rw [if_neg hbad]
          have HDD := hid hd
          have HC8 := hid hc8
          have hol : wr.cell? ⟨w.heap.size, d, none⟩ = some (.bool (decide (0 < cntS (s.data.toList.take k) (d + 1)))) := by rw [HO.out.cellAt d (by omega)]; exact dools_at hdn
          have hfz := HO.out.frozenAt d
          have id : (0 : Int) ≤ (d : Int) := by omega
          have jd : (d : Int) < (n : Int) := by omega
          have h0w : w.heap.size < wr.heap.size := own_cells_int HO.out
          have hkd : IntKind.i64.wrap ((s[k].toNat : Int) - 49) = d := by rw [show (s[k].toNat : Int) - 49 = d by omega]; exact i64_fits _ (by omega)
          have hkd2 : (s[k].toNat : Int) - 49 = d := by omega
          have hk49 : 49 ≤ s[k].toNat ∧ s[k].toNat ≤ 55 := by omega
          clear hbad hc8 HS hd
          by_cases hseen : 0 < cntS (s.data.toList.take k) (d + 1)
          · have HX : Hid (decide (textFaultS n s.data.toList = 0) = false) := by
              have h1 : 1 < cntS s.data.toList (d + 1) := by
                have h2 := cnt_mono s.data.toList (k + 1) (d + 1)
                rw [HT.out, cnt_snoc, if_pos HDD.out] at h2
                omega
              exact decide_eq_false (fault_twice hdn h1)
            rw [decide_eq_true hseen] at hol
            clear hseen
            go_wp2_with go_in
            all_goals
              go_ret
              exact ⟨ret_bool HX.out.symm, HB.out⟩
          · rw [decide_eq_false hseen] at hol
            have HQ2 : Hid (q + 1 = cntAll (s.data.toList.take (k + 1)) n) := by show _ = _; rw [HT.out, cntAll_set HDD.out hdn, ← HQ.out]
            have HC2 : Hid (∀ e, e < n → cntS (s.data.toList.take (k + 1)) (e + 1) ≤ 1) := fun e he => by
              rw [HT.out, cnt_snoc]
              by_cases h : e = d
              · subst h; rw [if_pos HDD.out]; omega
              · rw [if_neg (by have := HDD.out; omega)]; have := HC.out e he; omega
            have HST := hid (HO.out.stored d (.bool true)).1
            have HBS : Hid (Below w.heap.size w (wr.setCell ⟨w.heap.size, d, none⟩ (.bool true))) := HB.out.setCell (Nat.le_refl _) _
            clear hseen HQ HC
            go_wp2_with go_in
            go_roundw
            case rel =>
              refine ⟨k + 1, m + 1, q + 1, s[k], by go_num, by go_num, rfl, by omega, by omega, HQ2, HP1, ⟨fun h => absurd h HC8.out, fun h => absurd h (by omega)⟩, fun h => absurd h HC8.out, HC2, ?_, HBS⟩
              show World.ownsRow _ _ _ _ _ _ _
              rw [HT.out, ← dools_set HDD.out]; exact HST.out
            case measure => simp [intOf]; omega
    · have hall : s.data.toList.take k = s.data.toList := take_all s k (by omega)
      have HX : Hid (decide (textFaultS n s.data.toList = 0) = ((q : Int) == (n : Int))) := by
        have hpl : isPlanS n s.data.toList = true := by
          have h := HG.out
          rw [hall] at h
          unfold isPlanS
          rw [h]
          by_cases hm : m = 0
          · have h1 := HM.out.2 hm
            have h2 : k = 0 := by
              by_cases hk0 : 0 < k
              · have := HE.out h1 hk0; omega
              · omega
            have h3 : s.data.toList = [] := by
              have h6 : s.data.toList.length = s.size := by simp
              exact List.length_eq_zero_iff.1 (by omega)
            rw [h3]; simp
          · have : 0 < m := by omega
            simp [this]
        have h4 := fault_end hpl (fun d hd => by have := HC.out d hd; rw [hall] at this; exact this)
        have h5 := HQ.out
        rw [hall] at h5
        rw [← h5] at h4
        show _ = _
        by_cases hqn : q = n
        · rw [decide_eq_true (h4.2 hqn), hqn]; simp
        · rw [decide_eq_false (fun e => hqn (h4.1 e))]; symm; simp; omega
      clear hall
      go_wp2_with go_in
      all_goals
        go_ret
        exact ⟨ret_bool HX.out.symm, HB.out⟩

/- how many routes a plan has -/
theorem rt_count (l : List UInt8) (h : l ≠ []) : (routesS l).length = (rtGo l).1.length + 1 := by unfold routesS; rw [if_neg h]; simp
set_option maxRecDepth 100000 in
set_option maxHeartbeats 2000000 in
theorem kroutes_any (s : ByteArray) (w : World) (hs : s.size ≤ 140737488355328) :
    Calls Tryz.prog 27 #[.string s] w fun e w' => e = .returned (.int .i64 ((routesS s.data.toList).length : Nat)) ∧ w' = w := by
  have HV : Hid (s.toList.isEmpty = s.data.toList.isEmpty) := is_void s
  obtain ⟨b, hb⟩ : ∃ b : Nat, b = if s.data.toList = [] then 0 else 1 := ⟨_, rfl⟩
  have HBB := hid hb
  have hb1 : b ≤ 1 := by rw [hb]; split <;> omega
  have HF : Hid ((routesS s.data.toList).length = b + (rtGo s.data.toList).1.length) := by
    show _ = _
    rw [hb]
    by_cases h : s.data.toList = []
    · rw [if_pos h, h]; rfl
    · rw [if_neg h, rt_count _ h]; omega
  have key : Hid (∀ (w : World) (b : Nat), True) := fun _ _ => trivial
  clear key
  cases hem : s.data.toList.isEmpty
  · have hv : s.toList.isEmpty = false := by rw [HV.out, hem]
    have hbe : b = 1 := by rw [hb, if_neg (fun e => by rw [e] at hem; cases hem)]
    subst hbe
    clear hb HBB hem
    go_enter Tryz.func27, Tryz.ntmps27
    go_wp2_with fail
    go_loop [3, 4] (fun c i => ∃ k m : Nat, i = .int .i64 k ∧ c = .int .i64 (m + 1 : Nat) ∧ k ≤ s.size ∧ m ≤ k ∧ Hid ((rtGo (s.data.toList.take k)).1.length = m)) (fun _ i => s.size - (intOf i).toNat)
    case atStart => exact ⟨0, 0, rfl, rfl, by omega, by omega, rfl⟩
    case round =>
      obtain ⟨k, m, rfl, rfl, hk, hmk, HG⟩ := hrel
      by_cases hlt : k < s.size
      · have HT := take_snoc s k hlt
        have hb : s[k].toNat < 256 := s[k].toNat_lt
        by_cases hc : s[k].toNat = 47
        · have hc8 : s[k] = 47 := UInt8.toNat_inj.1 (by rw [hc]; rfl)
          have HX : Hid ((rtGo (s.data.toList.take (k + 1))).1.length = m + 1) := by show _ = _; rw [HT, rtGo_snoc]; unfold rtStep; rw [if_pos hc8]; simp [HG.out]
          have e1 : ((s[k].toNat : Int) == 47) = true := by simp [hc]
          clear HT hc hc8
          go_wp2
          go_round
          case rel => exact ⟨k + 1, m + 1, by go_num, by go_num, by omega, by omega, HX⟩
          case measure => simp [intOf]; omega
        · have hc8 : s[k] ≠ 47 := fun e => hc (by rw [e]; rfl)
          have HX : Hid ((rtGo (s.data.toList.take (k + 1))).1.length = m) := by show _ = _; rw [HT, rtGo_snoc]; unfold rtStep; rw [if_neg hc8]; exact HG.out
          have e1 : ((s[k].toNat : Int) == 47) = false := by simp; omega
          clear HT hc hc8
          go_wp2
          go_round
          case rel => exact ⟨k + 1, m, by go_num, rfl, by omega, by omega, HX⟩
          case measure => simp [intOf]; omega
      · have HX : Hid ((routesS s.data.toList).length = m + 1) := by have h := HG.out; rw [take_all s k (by omega)] at h; show _ = _; rw [HF.out, h]; omega
        go_wp2
        go_ret
        exact ⟨ret_int (by rw [HX.out]; omega), rfl⟩
  · have hv : s.toList.isEmpty = true := by rw [HV.out, hem]
    have he : s.data.toList = [] := by simpa using hem
    have hz : s.size = 0 := by have := congrArg List.length he; simpa using this
    have HX : Hid ((routesS s.data.toList).length = 0) := by show _ = _; rw [he]; rfl
    clear hem he hb HBB HF
    go_enter Tryz.func27, Tryz.ntmps27
    go_wp2_with fail
    go_loop [3, 4] (fun c i => c = .int .i64 0 ∧ ∃ k : Nat, i = .int .i64 k ∧ k ≤ s.size) (fun _ i => s.size - (intOf i).toNat)
    case atStart => exact ⟨rfl, 0, rfl, by omega⟩
    case round =>
      obtain ⟨rfl, k, rfl, hk⟩ := hrel
      have hlt : ¬ k < s.size := by omega
      go_wp2
      go_ret
      exact ⟨ret_int (by rw [HX.out]; rfl), rfl⟩
end Go.Proofs.YtebinaopncclgabGreatDoor
namespace Go.Proofs.YtebinaopncclgabGreatDoor
open Go.RowKit Go.IntWalk

theorem inst_box {w W : World} {r : Rd} {vs vr : Value} (h : W = w.alloc (.cells (yCells r vs vr) 28)) :
    Below w.heap.size w W ∧ w.heap.size < W.heap.size ∧ W.cell? ⟨w.heap.size, 0, none⟩ = some (.int .i64 r.vans) ∧ W.cell? ⟨w.heap.size, 1, none⟩ = some (.int .i64 r.load) ∧ W.cell? ⟨w.heap.size, 2, none⟩ = some (.int .i64 r.close) ∧ W.cell? ⟨w.heap.size, 3, none⟩ = some (.int .i64 r.nodes) ∧ W.cell? ⟨w.heap.size, 4, none⟩ = some (.int .i64 r.home) ∧ W.cell? ⟨w.heap.size, 5, none⟩ = some vs ∧ W.cell? ⟨w.heap.size, 6, none⟩ = some vr := by
  subst h
  have hb := heap_alloc_new w (.cells (yCells r vs vr) 28)
  refine ⟨below1 w _, by simp, ?_, ?_, ?_, ?_, ?_, ?_, ?_⟩ <;> (rw [cell_of_row _ _ _ _ _ _ hb]; rfl)
theorem below_drewM {B : Nat} {w w' : World} (h : Below B w w') (m : Nat) : Below B w (w'.drewN m) := ⟨h.os, h.tape, h.output, h.size, h.block⟩
/- may the van go home? -/
def homeOk (r : Rd) (D : Nat → Nat → Int) (p : Nat) (now : Int) : Bool := decide (D p 0 ≠ -1 ∧ now + D p 0 ≤ r.close)
theorem home_some {r : Rd} {D : Nat → Nat → Int} {x : Dv} (h : homeOk r D x.spot x.now = true) : dvHome r D x = some ⟨x.cost + D x.spot 0, 0, 0, 0, x.S⟩ := by
  have h1 := of_decide_eq_true h
  unfold dvHome
  rw [if_neg (by omega)]
theorem home_none {r : Rd} {D : Nat → Nat → Int} {x : Dv} (h : homeOk r D x.spot x.now = false) : dvHome r D x = none := by
  have h1 := of_decide_eq_false h
  unfold dvHome
  rw [if_pos (by omega)]

set_option maxRecDepth 100000 in
set_option maxHeartbeats 2000000 in
theorem home_any (r : Rd) (D : Nat → Nat → Int) (p : Nat) (now : Int) (vs vr vw : Value) (w : World) (hq : SqR w vw (r.stops.length + 1) D) (hD : ∀ a b, a < r.stops.length + 1 → b < r.stops.length + 1 → -1 ≤ D a b ∧ D a b ≤ 40960000) (hp : p < r.stops.length + 1) (hnow : -1000 ≤ now ∧ now ≤ 100000000000) (_hc : 0 ≤ r.close ∧ r.close ≤ 10000) (hvs : ∃ ao n c, vs = .slice ao n c) (hvr : ∃ ao n c, vr = .slice ao n c) :
    Calls Tryz.prog 28 #[inst r vs vr, vw, .int .i64 p, .int .i64 now] w fun e w' => e = .returned (.tuple #[.int .i64 (D p 0), .bool (homeOk r D p now)]) ∧ Below w.heap.size w w' := by
  obtain ⟨af, cf, rfl, hn, hsq⟩ := hq
  obtain ⟨fg, fgi, fci, rfl, hfg, hfc, hfgi, hfr⟩ := hsq p hp
  have hd := hfr 0 (by omega)
  have hdb := hD p 0 hp (by omega)
  obtain ⟨d, hdd⟩ : ∃ d, d = D p 0 := ⟨_, rfl⟩
  have HH : Hid (homeOk r D p now = decide (d ≠ -1 ∧ now + d ≤ r.close)) := by show _ = _; unfold homeOk; rw [hdd]
  rw [← hdd] at hd hdb ⊢
  obtain ⟨a1, n1, c1, rfl⟩ := hvr
  obtain ⟨a2, n2, c2, rfl⟩ := hvs
  have ip : (0 : Int) ≤ (p : Int) := by omega
  have jp : (p : Int) < (r.stops.length : Int) + 1 := by omega
  generalize homeOk r D p now = ho at *
  clear hsq hfr hD hdd
  unfold inst
  by_cases hno : d = -1
  · have HX : Hid (ho = false) := by show _ = _; rw [HH.out]; simp [hno]
    have e1 : (d != (-1 : Int)) = false := by simp [hno]
    have hws : IntKind.i64.wrap (now + d) = now + d := i64_fits _ (by omega)
    clear hno HH
    go_enter Tryz.func28, Tryz.ntmps28
    go_wp2_with go_in
    go_quiet (fail)
    go_wp2
    go_ret2
    refine ⟨?_, by first | exact below_drewM (below1 w _) _ | exact (below1 w _).drew | exact below1 w _⟩
    rw [HX.out]; rfl
  · have e1 : (d != (-1 : Int)) = true := by simpa using hno
    have hws : IntKind.i64.wrap (now + d) = now + d := i64_fits _ (by omega)
    have HX : Hid (ho = decide (now + d ≤ r.close)) := by show _ = _; rw [HH.out]; simp [hno]
    go_enter Tryz.func28, Tryz.ntmps28
    go_wp2_with go_in
    go_region_held3 (fun w' => w'.cell? ⟨w.heap.size, 2, none⟩ = some (.int .i64 r.close)) (go_keep) (fail)
    go_wp2
    go_ret2
    refine ⟨?_, by first | exact (below1 w _).drew | exact below1 w _⟩
    rw [HX.out]; rfl

/- what a plan that is driven leaves -/
def drvS (r : Rd) (D : Nat → Nat → Int) (l : List UInt8) : Option (Int × List Int) := if textFaultS r.stops.length l = 0 ∧ ¬ r.vans < ((routesS l).length : Int) then drivenS r D (List.replicate r.stops.length 0) l else none
def DrvLeft (w : World) (n : Nat) (x : Option (Int × List Int)) (e : Ending) (w' : World) : Prop :=
  (x = none → e = .returned (.tuple #[.int .i64 0, .slice none 0 0, .bool false])) ∧ (∀ C S, x = some (C, S) → ∃ v, e = .returned (.tuple #[.int .i64 C, v, .bool true]) ∧ w'.ownsRow w.heap.size 3 1 v n (ints S) ∧ S.length = n) ∧ Below w.heap.size w w'

set_option maxRecDepth 100000 in
set_option maxHeartbeats 8000000 in
theorem driven_any (r : Rd) (D : Nat → Nat → Int) (s : ByteArray) (vs vr vw : Value) (w : World) (hok : RdOk r) (hs : StR w vs r) (hq : SqR w vw (r.stops.length + 1) D) (hD : ∀ a b, a < r.stops.length + 1 → b < r.stops.length + 1 → -1 ≤ D a b ∧ D a b ≤ 40960000) (hsz : s.size ≤ 140737488355328) (hvr : ∃ ao n c, vr = .slice ao n c) :
    Calls Tryz.prog 15 #[inst r vs vr, vw, .string s] w (DrvLeft w r.stops.length (drvS r D s.data.toList)) := by
  obtain ⟨i0, hi, hz0, hz1, hz2⟩ := info_parts Tryz.infoInt
  obtain ⟨W, hW⟩ : ∃ W, W = w.alloc (.cells (yCells r vs vr) 28) := ⟨_, rfl⟩
  obtain ⟨hbW, hbox, k0, k1, k2, k3, k4, k5, k6⟩ := inst_box hW
  have HBW := hid hbW
  have hn := hok.nstops
  have HWH : Hid (Calls Tryz.prog 26 #[.string s, .int .i64 r.stops.length] W fun e w' => e = .returned (.bool (decide (textFaultS r.stops.length s.data.toList = 0))) ∧ Below W.heap.size W w') := kwhole_any r.stops.length s W hn (by unfold maxLen; omega)
  have HRT : Hid (∀ W', Calls Tryz.prog 27 #[.string s] W' fun e w' => e = .returned (.int .i64 ((routesS s.data.toList).length : Nat)) ∧ w' = W') := fun W' => kroutes_any s W' hsz
  have HVC : Hid (0 ≤ r.vans ∧ r.vans ≤ 10000 ∧ 0 ≤ r.load ∧ r.load ≤ 10000 ∧ 0 ≤ r.close ∧ r.close ≤ 10000) := by
    have := headOk_iff.1 hok.head
    show _ ∧ _
    omega
  have hvc := HVC.out
  have HS := hid (hs.below hbW)
  have HQ := hid (hq.below hbW)
  have hvw : ∃ ao n c, vw = .slice ao n c := by obtain ⟨a, c, e, _⟩ := hq; exact ⟨a, _, c, e⟩
  have hvs : ∃ ao c, vs = .slice ao r.stops.length c := by obtain ⟨a, c, e, _⟩ := hs; exact ⟨a, c, e⟩
  obtain ⟨ast, cs, rfl⟩ := hvs
  have hvr' := hvr
  have HHM : Hid (∀ (p : Nat) (now : Int) (W' : World), Below W.heap.size W W' → p < r.stops.length + 1 → (-1000 ≤ now ∧ now ≤ 100000000000) → Calls Tryz.prog 28 #[inst r (.slice ast r.stops.length cs) vr, vw, .int .i64 p, .int .i64 now] W' fun e w' => e = .returned (.tuple #[.int .i64 (D p 0), .bool (homeOk r D p now)]) ∧ Below W'.heap.size W' w') := fun p now W' hb hp hnow => home_any r D p now _ _ _ W' (HQ.out.below hb) hD hp hnow (by omega) ⟨_, _, _, rfl⟩ hvr'
  have HDD := hid hD
  have HOK := hid hok
  have HDV : Hid (∀ l : List UInt8, (∀ c ∈ l, c = 47 ∨ 49 ≤ c.toNat) → True) := fun _ _ => trivial
  clear HDV
  obtain ⟨a1, n1, c1, rfl⟩ := hvr
  obtain ⟨a2, n2, c2, rfl⟩ := hvw
  have HWQ := hid hW
  have hlb : (routesS s.data.toList).length ≤ 140737488355329 := by
    have h1 := routes_count s.data.toList
    have h2 : s.data.toList.length = s.size := by simp
    omega
  clear hW hbW hok hs hq hD hvr'
  unfold yCells inst at *
  by_cases hf : textFaultS r.stops.length s.data.toList = 0
  · rw [decide_eq_true hf] at HWH
    by_cases hv : r.vans < ((routesS s.data.toList).length : Int)
    · have HX : Hid (drvS r D s.data.toList = none) := by show _ = _; unfold drvS; rw [if_neg (fun h => h.2 hv)]
      generalize drvS r D s.data.toList = ans at *
      generalize (routesS s.data.toList).length = m at *
      clear hf
      go_enter Tryz.func15, Tryz.ntmps15
      go_wp2_with (first
        | (go_at_call 26; rw [← HWQ.out]; refine HWH.out.mono ?_; rintro e1 w1 ⟨rfl, hb1⟩; have HB1 := hid hb1; have y0 : w1.cell? _ = _ := (hb1.cell (by exact hbox)).trans k0; have hbx1 : w.heap.size < w1.heap.size := Nat.lt_of_lt_of_le hbox hb1.size; clear hb1)
        | (go_at_call 27; refine (HRT.out _).mono ?_; rintro e2 w2 ⟨he2, hw2⟩; subst he2; rw [hw2]; clear hw2 w2)
        | go_in)
      go_ret3
      exact ⟨fun _ => rfl, fun C S e => (by rw [HX.out] at e; cases e), HBW.out.trans (HB1.out.mono HBW.out.size)⟩
    · obtain ⟨Z, hZ⟩ : ∃ Z, Z = List.replicate r.stops.length (0 : Int) := ⟨_, rfl⟩
      have hZl : Z.length = r.stops.length := by rw [hZ]; simp
      have HA : Hid (drvS r D s.data.toList = drivenS r D Z s.data.toList) := by show _ = _; unfold drvS; rw [if_pos ⟨hf, hv⟩, hZ]
      obtain ⟨hs14, hpl, _⟩ := fine_size hf
      have hs15 : s.size ≤ 14 := by
        have h2 : s.data.toList.length = s.size := by simp
        omega
      have HPB : Hid (∀ k (h : k < s.size), s[k] = 47 ∨ (49 ≤ s[k].toNat ∧ s[k].toNat - 48 ≤ r.stops.length)) := fun k h => plan_byte hpl (k := k) (by simpa using h)
      have HNO : Hid (∀ k, dvGo r D Z (s.data.toList.take k) = none → drvS r D s.data.toList = none) := fun k h => by
        have h1 := dvGo_none r D Z (s.data.toList.take k) (s.data.toList.drop k) h
        rw [List.take_append_drop] at h1
        rw [HA.out]
        unfold drivenS
        by_cases he : s.data.toList = []
        · rw [he] at h
          simp [dvGo] at h
        · rw [if_neg he, h1]
      have HZZ := hid hZ
      generalize drvS r D s.data.toList = ans at *
      generalize hm : (routesS s.data.toList).length = m at *
      clear hf hs14 hpl hm hZ
      go_enter Tryz.func15, Tryz.ntmps15
      go_wp2_with (first
        | (go_at_call 26; rw [← HWQ.out]; refine HWH.out.mono ?_; rintro e1 w1 ⟨rfl, hb1⟩; have HB1 := hid hb1; have y0 : w1.cell? _ = _ := (hb1.cell (by exact hbox)).trans k0; have y5 : w1.cell? _ = _ := (hb1.cell (by exact hbox)).trans k5; have hbx1 : w.heap.size < w1.heap.size := Nat.lt_of_lt_of_le hbox hb1.size; clear hb1)
        | (go_at_call 27; refine (HRT.out _).mono ?_; rintro e2 w2 ⟨he2, hw2⟩; subst he2; rw [hw2]; clear hw2 w2)
        | (at_make; refine wpList_make_full _ rfl _ _ 40 rfl w1.heap.size 3 i0 (.int .i64 0) 1 Tryz.underlying40 hi hz0 hz1 .i64 .i64 _ _ r.stops.length rfl rfl ?m1 ?m2 ?m3 ?m4 ?m5 ?_)
        | go_in)
      case m1 => rfl
      case m2 => rfl
      case m3 => rw [hz2]; omega
      case m4 => unfold maxLen; omega
      case m5 => exact Nat.le_refl _
      intro w5 hown5 hgr5
      have HB5 : Hid (Below w1.heap.size w1 w5) := (Below.refl _ _).grown hgr5 (Nat.le_refl _) (by simp)
      have HO5 : Hid (w5.ownsRow w1.heap.size 3 1 (.slice (some ⟨w1.heap.size, 0, none⟩) r.stops.length r.stops.length) r.stops.length (ints Z)) := by
        have e : (madeCells #[Value.int IntKind.i64 0] r.stops.length).toList = ints Z := by rw [toList_madeCells_one, HZZ.out]; simp [ints]
        show World.ownsRow _ _ _ _ _ _ _
        rw [← e]; exact hown5
      have HY : Hid (w1.cell? ⟨w.heap.size, 0, none⟩ = some (.int .i64 r.vans) ∧ w1.cell? ⟨w.heap.size, 1, none⟩ = some (.int .i64 r.load) ∧ w1.cell? ⟨w.heap.size, 2, none⟩ = some (.int .i64 r.close) ∧ w1.cell? ⟨w.heap.size, 3, none⟩ = some (.int .i64 r.nodes) ∧ w1.cell? ⟨w.heap.size, 4, none⟩ = some (.int .i64 r.home) ∧ w1.cell? ⟨w.heap.size, 5, none⟩ = some (.slice ast r.stops.length cs) ∧ w1.cell? ⟨w.heap.size, 6, none⟩ = some (.slice a1 n1 c1)) := ⟨y0, (HB1.out.cell (by exact hbox)).trans k1, (HB1.out.cell (by exact hbox)).trans k2, (HB1.out.cell (by exact hbox)).trans k3, (HB1.out.cell (by exact hbox)).trans k4, y5, (HB1.out.cell (by exact hbox)).trans k6⟩
      have HS1 := hid (HS.out.below HB1.out)
      have HQ1 := hid (HQ.out.below HB1.out)
      clear hown5 hgr5 y0 y5 k0 k1 k2 k3 k4 k5 k6 HWH HRT hv hlb
      go_wp2_with fail
      go_loopw [12, 13, 14, 15, 16] (fun cv av nv wv i wr => ∃ (k p : Nat) (C now want : Int) (S : List Int), i = .int .i64 k ∧ cv = .int .i64 C ∧ av = .int .i64 p ∧ nv = .int .i64 now ∧ wv = .int .i64 want ∧ k ≤ s.size ∧ p < r.stops.length + 1 ∧ (-(k : Int) ≤ C ∧ C ≤ (k : Int) * 40960000) ∧ (-(k : Int) ≤ now ∧ now ≤ (k : Int) * 41000000) ∧ (0 ≤ want ∧ want ≤ (k : Int) * 10000) ∧ S.length = r.stops.length ∧ Hid (dvGo r D Z (s.data.toList.take k) = some ⟨C, p, now, want, S⟩) ∧ Hid (wr.ownsRow w1.heap.size 3 1 (.slice (some ⟨w1.heap.size, 0, none⟩) r.stops.length r.stops.length) r.stops.length (ints S)) ∧ Hid (Below w1.heap.size w1 wr)) (fun _ _ _ _ i _ => s.size - (intOf i).toNat)
      case atStart => exact ⟨0, 0, 0, 0, 0, Z, rfl, rfl, rfl, rfl, rfl, by omega, by omega, by omega, by omega, by omega, hZl, rfl, HO5, HB5⟩
      case round =>
        clear HO5 HB5
        obtain ⟨k, p, C, now, want, S, rfl, rfl, rfl, rfl, rfl, hk, hp, hC, hnow, hwant, hSl, HG, HO, HB⟩ := hrel
        have HBB : Hid (Below W.heap.size W wr) := HB1.out.trans (HB.out.mono HB1.out.size)
        have hbw : w.heap.size < wr.heap.size := Nat.lt_of_lt_of_le hbox HBB.out.size
        have hbx1 : w.heap.size < w1.heap.size := Nat.lt_of_lt_of_le hbox HB1.out.size
        have y0 : wr.cell? _ = _ := (HB.out.cell (by exact hbx1)).trans HY.out.1
        have y1 : wr.cell? _ = _ := (HB.out.cell (by exact hbx1)).trans HY.out.2.1
        have y2 : wr.cell? _ = _ := (HB.out.cell (by exact hbx1)).trans HY.out.2.2.1
        have y3 : wr.cell? _ = _ := (HB.out.cell (by exact hbx1)).trans HY.out.2.2.2.1
        have y4 : wr.cell? _ = _ := (HB.out.cell (by exact hbx1)).trans HY.out.2.2.2.2.1
        have y5 : wr.cell? _ = _ := (HB.out.cell (by exact hbx1)).trans HY.out.2.2.2.2.2.1
        have y6 : wr.cell? _ = _ := (HB.out.cell (by exact hbx1)).trans HY.out.2.2.2.2.2.2
        have HCH := hid (HHM.out p now wr HBB.out hp (by omega))
        have hdb := HDD.out p 0 hp (by omega)
        by_cases hlt : k < s.size
        · have HT := hid (take_snoc s k hlt)
          have hb : s[k].toNat < 256 := s[k].toNat_lt
          have HN : Hid (dvGo r D Z (s.data.toList.take (k + 1)) = if s[k] = 47 then dvHome r D ⟨C, p, now, want, S⟩ else dvStop r D ⟨C, p, now, want, S⟩ (s[k].toNat - 48)) := by
            show _ = _
            rw [HT.out, dvGo_snoc, HG.out]; rfl
          have hpb := HPB.out k hlt
          by_cases hc : s[k].toNat = 47
          · have hc8 : s[k] = 47 := UInt8.toNat_inj.1 (by rw [hc]; rfl)
            have e1 : ((s[k].toNat : Int) == 47) = true := by simp [hc]
            have HN2 : Hid (dvGo r D Z (s.data.toList.take (k + 1)) = dvHome r D ⟨C, p, now, want, S⟩) := by show _ = _; rw [HN.out, if_pos hc8]
            have HHS : Hid (homeOk r D p now = true → dvHome r D ⟨C, p, now, want, S⟩ = some ⟨C + D p 0, 0, 0, 0, S⟩) := fun h => home_some (x := ⟨C, p, now, want, S⟩) h
            have HHN : Hid (homeOk r D p now = false → dvHome r D ⟨C, p, now, want, S⟩ = none) := fun h => home_none (x := ⟨C, p, now, want, S⟩) h
            generalize D p 0 = d at *
            clear hpb hc8 hc HN
            cases hho : homeOk r D p now
            · rw [hho] at HCH
              have HX := hid (HNO.out (k + 1) (by rw [HN2.out]; exact HHN.out hho))
              clear hho HHS HHN
              go_wp2_with (first
                | (go_at_call 28; refine HCH.out.mono ?_; rintro e3 w3 ⟨rfl, hb3⟩)
                | go_in)
              go_ret3
              exact ⟨fun _ => rfl, fun C S e => (by rw [HX.out] at e; cases e), (HBW.out.trans (HBB.out.mono HBW.out.size)).trans (hb3.mono (Nat.le_trans HBW.out.size HBB.out.size))⟩
            · rw [hho] at HCH
              have HX : Hid (dvGo r D Z (s.data.toList.take (k + 1)) = some ⟨C + d, 0, 0, 0, S⟩) := by show _ = _; rw [HN2.out]; exact HHS.out hho
              clear hho HHS HHN HN2
              go_wp2_with (first
                | (go_at_call 28; refine HCH.out.mono ?_; rintro e3 w3 ⟨rfl, hb3⟩; have HB3 := hid hb3; have HO3 := hid (own_below HO.out hb3); clear hb3)
                | go_in)
              go_roundw
              case rel => exact ⟨k + 1, 0, C + d, 0, 0, S, by go_num, rfl, rfl, rfl, rfl, by omega, by omega, by omega, by omega, by omega, hSl, HX, HO3, HB.out.trans (HB3.out.mono HB.out.size)⟩
              case measure => simp [intOf]; omega
          · have hc8 : s[k] ≠ 47 := fun e => hc (by rw [e]; rfl)
            have e1 : ((s[k].toNat : Int) == 47) = false := by simp; omega
            have hdg : 49 ≤ s[k].toNat ∧ s[k].toNat - 48 ≤ r.stops.length := by
              rcases hpb with h | h
              · exact absurd h hc8
              · exact h
            obtain ⟨mm, hmm⟩ : ∃ mm, s[k].toNat = 48 + (mm + 1) := ⟨s[k].toNat - 49, by omega⟩
            have HN2 : Hid (dvGo r D Z (s.data.toList.take (k + 1)) = dvStop r D ⟨C, p, now, want, S⟩ (mm + 1)) := by show _ = _; rw [HN.out, if_neg hc8, show s[k].toNat - 48 = mm + 1 by omega]
            obtain ⟨sg, rfl, hsg, hsc⟩ : ∃ g, ast = some ⟨g, 0, none⟩ ∧ g < w1.heap.size ∧ ∀ j z, j < 5 → (r.stops.getD mm [])[j]? = some z → w1.cell? ⟨g, mm * 5 + j, none⟩ = some (.int .i64 z) := by
              obtain ⟨ao', c', e, h⟩ := HS1.out
              cases e
              obtain ⟨g, e2, h2, h3⟩ := h mm (by omega)
              exact ⟨g, e2, h2, fun j z hj hz => h3 j z hj (by rw [List.getD_eq_getElem?_getD, List.getElem?_eq_getElem (show mm < r.stops.length by omega)] at hz; exact hz)⟩
            obtain ⟨b0, b1, b2, b3, b4, hab, hsk⟩ := HOK.out.stops _ (List.getElem_mem (show mm < r.stops.length by omega))
            have hg' : r.stops.getD mm [] = [b0, b1, b2, b3, b4] := by rw [List.getD_eq_getElem?_getD, List.getElem?_eq_getElem (show mm < r.stops.length by omega), Option.getD_some, hab]
            have hV : ∀ j, stopV r (mm + 1) j = [b0, b1, b2, b3, b4].getD j 0 := fun j => by unfold stopV; rw [Nat.add_sub_cancel, hg']
            have hbb : (0 ≤ b1 ∧ b1 ≤ 10000) ∧ (0 ≤ b2 ∧ b2 ≤ 10000) ∧ (0 ≤ b3 ∧ b3 ≤ 10000) ∧ (0 ≤ b4 ∧ b4 ≤ 10000) := by
              simp only [stopOk, Bool.and_eq_true, fit_iff, decide_eq_true_eq] at hsk
              omega
            have hcl : ∀ j z, j < 5 → [b0, b1, b2, b3, b4][j]? = some z → wr.cell? ⟨sg, mm * 5 + j, none⟩ = some (.int .i64 z) := fun j z hj hz => (HB.out.cell (by exact hsg)).trans (hsc j z hj (by rw [hg']; exact hz))
            have s0 : wr.cell? ⟨sg, mm * 5, none⟩ = some (.int .i64 b0) := hcl 0 b0 (by omega) rfl
            have s1 := hcl 1 b1 (by omega) rfl
            have s2 := hcl 2 b2 (by omega) rfl
            have s3 := hcl 3 b3 (by omega) rfl
            have s4 := hcl 4 b4 (by omega) rfl
            have hsw : sg < wr.heap.size := Nat.lt_of_lt_of_le hsg HB.out.size
            obtain ⟨ao', cf, e, hn100, hsq⟩ := HQ1.out
            cases e
            obtain ⟨fg, fgi, fci, rfl, hfg, hfc, hfgi, hfr⟩ := hsq p hp
            have hd : wr.cell? ⟨fgi, mm + 1, none⟩ = _ := (HB.out.cell (by exact hfgi)).trans (hfr (mm + 1) (by omega))
            have hfw : wr.cell? ⟨fg, p, none⟩ = _ := (HB.out.cell (by exact hfg)).trans hfc
            have hgf : fg < wr.heap.size := Nat.lt_of_lt_of_le hfg HB.out.size
            have hgif : fgi < wr.heap.size := Nat.lt_of_lt_of_le hfgi HB.out.size
            have hdb2 := HDD.out p (mm + 1) hp (by omega)
            have HN3 : Hid (dvGo r D Z (s.data.toList.take (k + 1)) = if D p (mm + 1) = -1 ∨ b3 < (if now + D p (mm + 1) < b2 then b2 else now + D p (mm + 1)) ∨ r.load < want + b1 then none else some ⟨C + D p (mm + 1), mm + 1, (if now + D p (mm + 1) < b2 then b2 else now + D p (mm + 1)) + b4, want + b1, S.set mm (if now + D p (mm + 1) < b2 then b2 else now + D p (mm + 1))⟩) := by
              show _ = _
              rw [HN2.out]
              unfold dvStop dvT
              rw [hV, hV, hV, hV]; rfl
            generalize D p (mm + 1) = d at *
            have hfz := HO.out.frozenAt mm
            have hol : wr.cell? ⟨w1.heap.size, mm, none⟩ = some (.int .i64 (S.getD mm 0)) := by
              rw [HO.out.cellAt mm (by omega)]
              simp [ints, List.getD_eq_getElem?_getD, List.getElem?_eq_getElem (show mm < S.length by omega)]
            have h0w : w1.heap.size < wr.heap.size := own_cells_int HO.out
            have ip : (0 : Int) ≤ (p : Int) := by omega
            have jp : (p : Int) < (r.stops.length : Int) + 1 := by omega
            have im : (0 : Int) ≤ (mm : Int) := by omega
            have jm : (mm : Int) < (r.stops.length : Int) := by omega
            have hk48 : IntKind.i64.wrap ((s[k].toNat : Int) - 48) = mm + 1 := by rw [show (s[k].toNat : Int) - 48 = mm + 1 by omega]; exact i64_fits _ (by omega)
            have hk482 : (s[k].toNat : Int) - 48 = mm + 1 := by omega
            have hwm : IntKind.i64.wrap ((mm : Int) + 1 - 1) = mm := by rw [show (mm : Int) + 1 - 1 = mm by omega]; exact i64_fits _ (by omega)
            have hwm2 : IntKind.i64.wrap (mm : Int) = mm := i64_fits _ (by omega)
            have htm : ((mm : Int) + 1).toNat = mm + 1 := by omega
            have hmn : mm < r.stops.length := by omega
            clear hsc hab hsk hV hg' hcl hsq hfr HN HN2 hpb hc8 hc hdg hmm HCH
            by_cases hearly : now + d < b2
            · by_cases hno : d = -1
              · have HX := hid (HNO.out (k + 1) (by rw [HN3.out, if_pos hearly, if_pos (.inl hno)]))
                have e2 : (d == (-1 : Int)) = true := by simp [hno]
                clear hno
                go_wp2_with go_in
                go_ret3
                exact ⟨fun _ => rfl, fun C S e => (by rw [HX.out] at e; cases e), HBW.out.trans ((HBB.out.alloc HBB.out.size _).mono HBW.out.size)⟩
              · by_cases hlate : b3 < b2
                · have HX := hid (HNO.out (k + 1) (by rw [HN3.out, if_pos hearly, if_pos (.inr (.inl hlate))]))
                  have e2 : (d == (-1 : Int)) = false := by simpa using hno
                  have e3 : decide (b3 < b2) = true := decide_eq_true hlate
                  go_wp2_with go_in
                  go_ret3
                  exact ⟨fun _ => rfl, fun C S e => (by rw [HX.out] at e; cases e), HBW.out.trans ((HBB.out.alloc HBB.out.size _).mono HBW.out.size)⟩
                · by_cases hheavy : r.load < want + b1
                  · have HX := hid (HNO.out (k + 1) (by rw [HN3.out, if_pos hearly, if_pos (.inr (.inr hheavy))]))
                    have e2 : (d == (-1 : Int)) = false := by simpa using hno
                    have e3 : decide (b3 < b2) = false := decide_eq_false hlate
                    have e4 : decide (r.load < want + b1) = true := decide_eq_true hheavy
                    go_wp2_with go_in
                    go_ret3
                    exact ⟨fun _ => rfl, fun C S e => (by rw [HX.out] at e; cases e), HBW.out.trans ((HBB.out.alloc HBB.out.size _).mono HBW.out.size)⟩
                  · have HX : Hid (dvGo r D Z (s.data.toList.take (k + 1)) = some ⟨C + d, mm + 1, b2 + b4, want + b1, S.set mm (b2)⟩) := by
                      show _ = _
                      rw [HN3.out, if_pos hearly, if_neg]
                      intro h
                      rcases h with h | h | h
                      · exact hno h
                      · exact hlate h
                      · exact hheavy h
                    have e2 : (d == (-1 : Int)) = false := by simpa using hno
                    have e3 : decide (b3 < b2) = false := decide_eq_false hlate
                    have e4 : decide (r.load < want + b1) = false := decide_eq_false hheavy
                    have HST2 := hid (HO.out.stored mm (.int .i64 (b2))).1
                    have HBS : Hid (Below w1.heap.size w1 (wr.setCell ⟨w1.heap.size, mm, none⟩ (.int .i64 (b2)))) := HB.out.setCell (Nat.le_refl _) _
                    have HIS : Hid ((ints S).set mm (.int .i64 (b2)) = ints (S.set mm (b2))) := by show _ = _; simp [ints, List.map_set]
                    go_wp2_with go_in
                    go_roundw
                    case rel =>
                      refine ⟨k + 1, mm + 1, C + d, b2 + b4, want + b1, S.set mm (b2), by go_num, rfl, by go_num, rfl, rfl, by omega, by omega, by omega, by omega, by omega, by simp [hSl], HX, ?_, HBS.out.alloc HBS.out.size _⟩
                      show World.ownsRow _ _ _ _ _ _ _
                      rw [← HIS.out]; exact HST2.out.alloc _
                    case measure => simp [intOf]; omega
            · by_cases hno : d = -1
              · have HX := hid (HNO.out (k + 1) (by rw [HN3.out, if_neg hearly, if_pos (.inl hno)]))
                have e2 : (d == (-1 : Int)) = true := by simp [hno]
                clear hno
                go_wp2_with go_in
                go_ret3
                exact ⟨fun _ => rfl, fun C S e => (by rw [HX.out] at e; cases e), HBW.out.trans ((HBB.out.alloc HBB.out.size _).mono HBW.out.size)⟩
              · by_cases hlate : b3 < now + d
                · have HX := hid (HNO.out (k + 1) (by rw [HN3.out, if_neg hearly, if_pos (.inr (.inl hlate))]))
                  have e2 : (d == (-1 : Int)) = false := by simpa using hno
                  have e3 : decide (b3 < now + d) = true := decide_eq_true hlate
                  go_wp2_with go_in
                  go_ret3
                  exact ⟨fun _ => rfl, fun C S e => (by rw [HX.out] at e; cases e), HBW.out.trans ((HBB.out.alloc HBB.out.size _).mono HBW.out.size)⟩
                · by_cases hheavy : r.load < want + b1
                  · have HX := hid (HNO.out (k + 1) (by rw [HN3.out, if_neg hearly, if_pos (.inr (.inr hheavy))]))
                    have e2 : (d == (-1 : Int)) = false := by simpa using hno
                    have e3 : decide (b3 < now + d) = false := decide_eq_false hlate
                    have e4 : decide (r.load < want + b1) = true := decide_eq_true hheavy
                    go_wp2_with go_in
                    go_ret3
                    exact ⟨fun _ => rfl, fun C S e => (by rw [HX.out] at e; cases e), HBW.out.trans ((HBB.out.alloc HBB.out.size _).mono HBW.out.size)⟩
                  · have HX : Hid (dvGo r D Z (s.data.toList.take (k + 1)) = some ⟨C + d, mm + 1, now + d + b4, want + b1, S.set mm (now + d)⟩) := by
                      show _ = _
                      rw [HN3.out, if_neg hearly, if_neg]
                      intro h
                      rcases h with h | h | h
                      · exact hno h
                      · exact hlate h
                      · exact hheavy h
                    have e2 : (d == (-1 : Int)) = false := by simpa using hno
                    have e3 : decide (b3 < now + d) = false := decide_eq_false hlate
                    have e4 : decide (r.load < want + b1) = false := decide_eq_false hheavy
                    have HST2 := hid (HO.out.stored mm (.int .i64 (now + d))).1
                    have HBS : Hid (Below w1.heap.size w1 (wr.setCell ⟨w1.heap.size, mm, none⟩ (.int .i64 (now + d)))) := HB.out.setCell (Nat.le_refl _) _
                    have HIS : Hid ((ints S).set mm (.int .i64 (now + d)) = ints (S.set mm (now + d))) := by show _ = _; simp [ints, List.map_set]
                    go_wp2_with go_in
                    go_roundw
                    case rel =>
                      refine ⟨k + 1, mm + 1, C + d, now + d + b4, want + b1, S.set mm (now + d), by go_num, rfl, by go_num, rfl, rfl, by omega, by omega, by omega, by omega, by omega, by simp [hSl], HX, ?_, HBS.out.alloc HBS.out.size _⟩
                      show World.ownsRow _ _ _ _ _ _ _
                      rw [← HIS.out]; exact HST2.out.alloc _
                    case measure => simp [intOf]; omega
        · have hke : k = s.size := by omega
          have hall : s.data.toList.take k = s.data.toList := take_all s k (by omega)
          have HG2 : Hid (dvGo r D Z s.data.toList = some ⟨C, p, now, want, S⟩) := by have h := HG.out; rw [hall] at h; exact h
          have HV : Hid (s.toList.isEmpty = s.data.toList.isEmpty) := is_void s
          clear hall
          by_cases hz : s.size = 0
          · have hnil : s.data.toList = [] := List.length_eq_zero_iff.1 (by simpa using hz)
            have hv2 : s.toList.isEmpty = true := by rw [HV.out, hnil]; rfl
            have HX : Hid (ans = some (C, S)) := by
              have h := HG2.out
              rw [hnil] at h
              cases h
              show _ = _
              rw [HA.out, hnil]; rfl
            clear hnil hke hz
            go_wp2_with go_in
            all_goals
              go_ret3
              refine ⟨fun e => (by rw [HX.out] at e; cases e), fun C' S' e => ?_, HBW.out.trans (HBB.out.mono HBW.out.size)⟩
              rw [HX.out] at e
              cases e
              exact ⟨_, rfl, own_base HO.out (Nat.le_trans HBW.out.size HB1.out.size), hSl⟩
          · have hne : s.data.toList ≠ [] := fun e => hz (by have h6 : s.data.toList.length = s.size := by simp
                                                             rw [e] at h6; exact h6.symm)
            have hv2 : s.toList.isEmpty = false := by rw [HV.out]; simpa using hne
            have HHS : Hid (homeOk r D p now = true → ans = some (C + D p 0, S)) := fun h => by
              rw [HA.out]
              unfold drivenS
              rw [if_neg hne, HG2.out]
              simp only
              rw [home_some (x := ⟨C, p, now, want, S⟩) h]
            have HHN : Hid (homeOk r D p now = false → ans = none) := fun h => by
              rw [HA.out]
              unfold drivenS
              rw [if_neg hne, HG2.out]
              simp only
              rw [home_none (x := ⟨C, p, now, want, S⟩) h]
            generalize D p 0 = d at *
            clear hne hke hz
            cases hho : homeOk r D p now
            · rw [hho] at HCH
              have HX := hid (HHN.out hho)
              clear hho HHS HHN
              go_wp2_with (first
                | (go_at_call 28; refine HCH.out.mono ?_; rintro e3 w3 ⟨rfl, hb3⟩)
                | go_in)
              all_goals
                go_ret3
                exact ⟨fun _ => rfl, fun C S e => (by rw [HX.out] at e; cases e), (HBW.out.trans (HBB.out.mono HBW.out.size)).trans (hb3.mono (Nat.le_trans HBW.out.size HBB.out.size))⟩
            · rw [hho] at HCH
              have HX := hid (HHS.out hho)
              clear hho HHS HHN
              go_wp2_with (first
                | (go_at_call 28; refine HCH.out.mono ?_; rintro e3 w3 ⟨rfl, hb3⟩; have HB3 := hid hb3; have HO3 := hid (own_below HO.out hb3); clear hb3)
                | go_in)
              go_ret3
              refine ⟨fun e => (by rw [HX.out] at e; cases e), fun C' S' e => ?_, (HBW.out.trans (HBB.out.mono HBW.out.size)).trans (HB3.out.mono (Nat.le_trans HBW.out.size HBB.out.size))⟩
              rw [HX.out] at e
              cases e
              exact ⟨_, rfl, own_base HO3.out (Nat.le_trans HBW.out.size HB1.out.size), hSl⟩
  · have HX : Hid (drvS r D s.data.toList = none) := by show _ = _; unfold drvS; rw [if_neg (fun h => hf h.1)]
    rw [decide_eq_false hf] at HWH
    generalize drvS r D s.data.toList = ans at *
    generalize (routesS s.data.toList).length = m at *
    clear hf
    go_enter Tryz.func15, Tryz.ntmps15
    go_wp2_with (first
      | (go_at_call 26; rw [← HWQ.out]; refine HWH.out.mono ?_; rintro e1 w1 ⟨rfl, hb1⟩; have HB1 := hid hb1; have y0 : w1.cell? _ = _ := (hb1.cell (by exact hbox)).trans k0; have hbx1 : w.heap.size < w1.heap.size := Nat.lt_of_lt_of_le hbox hb1.size; clear hb1)
      | (go_at_call 27; refine (HRT.out _).mono ?_; rintro e2 w2 ⟨he2, hw2⟩; subst he2; rw [hw2]; clear hw2 w2)
      | go_in)
    go_ret3
    exact ⟨fun _ => rfl, fun C S e => (by rw [HX.out] at e; cases e), HBW.out.trans (HB1.out.mono HBW.out.size)⟩
end Go.Proofs.YtebinaopncclgabGreatDoor
namespace Go.Proofs.YtebinaopncclgabGreatDoor
open Go.RowKit Go.IntWalk

set_option maxRecDepth 100000 in
set_option maxHeartbeats 8000000 in
theorem gcheck_ok (s l t : ByteArray) (r : Rd) (w : World) (hs : s.size ≤ maxLen) (hl : l.size ≤ maxLen) (ht : ShortT t) (hp : parseS s.data.toList = (r, 0, 0)) (hok : RdOk r) :
    Calls Tryz.prog 93 #[.string s, .string l, .string t] w fun e w' => e = .returned (.tuple #[.int .i64 (checkS r l.data.toList t.data.toList).1, .int .i64 (checkS r l.data.toList t.data.toList).2]) ∧ Below w.heap.size w w' := by
  have HCP : Hid (∀ W, Calls Tryz.prog 37 #[.string s] W (Parsed W (r, 0, 0))) := fun W => by rw [← hp]; exact parse_any s W hs
  have HOK := hid hok
  have hns := HOK.out.nstops
  have hnr := HOK.out.nroads
  clear hok hs hp
  go_enter Tryz.func93, Tryz.ntmps93
  go_wp2_with fail
  refine (HCP.out _).mono ?_
  rintro e1 w1 ⟨vs, vr, rfl, hos, hor, hb1⟩
  unfold inst
  obtain ⟨aos, caps, hv1, _, _⟩ := own_val hos
  obtain ⟨aor, capr, hv2, _, _⟩ := own_val hor
  subst hv1 hv2
  have HB1 : Hid (Below w.heap.size w w1) := by first | exact hb1 | exact (below1 w _).trans (hb1.mono (by simp))
  have HS1 := hid hos
  have HR1 := hid hor
  clear hos hor hb1 HCP
  go_wp2_with fail
  refine (of_any w.heap.size w.heap.size r (.slice aos r.stops.length caps) (.slice aor r.roads.length capr) _ HOK.out (HS1.out.alloc _) (HR1.out.alloc _)).mono ?_
  rintro e2 w2 ⟨v2, rfl, hg2, hb2⟩
  have hb12 : Below w1.heap.size w1 w2 := (below1 w1 _).trans (hb2.mono (by simp))
  have hbx2 : w2.heap[w1.heap.size]? = some (.cells #[.int .i64 r.vans, .int .i64 r.load, .int .i64 r.close, .int .i64 r.nodes, .int .i64 r.home, .slice aos r.stops.length caps, .slice aor r.roads.length capr] 28 (0, 0)) := (hb2.block _ (by simp)).trans (heap_alloc_new w1 _)
  obtain ⟨q0, q1, q2, q3, q4, q5, q6, _⟩ := seven hbx2
  have hxl : w1.heap.size < w2.heap.size := (Array.getElem?_eq_some_iff.1 hbx2).1
  have HB2 : Hid (Below w.heap.size w w2) := HB1.out.trans (hb12.mono HB1.out.size)
  have HSQ2 : Hid (SqR w2 v2 (r.stops.length + 1) (siteD r)) := hg2.sq (by omega)
  have HS2 := hid (own_below HS1.out hb12)
  have HR2 := hid (own_below HR1.out hb12)
  obtain ⟨g7, _, rfl, _⟩ := hg2
  clear hb2 hb12 HS1 HR1 HB1 hbx2
  unfold ground
  go_wp2_with fail
  obtain ⟨W2, hW2⟩ : ∃ W2, W2 = w2.alloc (.cells (ground r (.slice aos r.stops.length caps) (.slice aor r.roads.length capr) (.slice (some ⟨g7, 0, none⟩) (r.stops.length + 1) (r.stops.length + 1))) 82) := ⟨_, rfl⟩
  have hW2' := hW2
  unfold ground at hW2'
  rw [← hW2']
  have hbW2 : Below w2.heap.size w2 W2 := by rw [hW2]; exact below1 w2 _
  have hbx3 : W2.heap[w2.heap.size]? = some (.cells (ground r (.slice aos r.stops.length caps) (.slice aor r.roads.length capr) (.slice (some ⟨g7, 0, none⟩) (r.stops.length + 1) (r.stops.length + 1))) 82 (0, 0)) := by rw [hW2]; exact heap_alloc_new w2 _
  have HBX3 := hid hbx3
  have HBW2 := hid hbW2
  clear hW2 hW2' q0 q1 q2 q3 q4 q5 q6 hbx3 hbW2
  refine (root_any w.heap.size w.heap.size r (.slice aos r.stops.length caps) (.slice aor r.roads.length capr) _ HOK.out (own_below HS2.out HBW2.out) (own_below HR2.out HBW2.out)).mono ?_
  rintro e3 w3 ⟨v3, rfl, hg3, hb3⟩
  have hb23 : Below w2.heap.size w2 w3 := HBW2.out.trans (hb3.mono HBW2.out.size)
  have HB3 : Hid (Below w.heap.size w w3) := HB2.out.trans (hb23.mono HB2.out.size)
  have HSQ3 : Hid (SqR w3 v3 (r.stops.length + 1) (siteD r)) := hg3.sq (by omega)
  have HSQ2' : Hid (SqR w3 (.slice (some ⟨g7, 0, none⟩) (r.stops.length + 1) (r.stops.length + 1)) (r.stops.length + 1) (siteD r)) := HSQ2.out.below hb23
  have HST3 : Hid (StR w3 (.slice aos r.stops.length caps) r) := (StR.own HS2.out (fun s hs => (HOK.out.nice.stops s hs).1)).below hb23
  have hl2 : w2.heap.size < W2.heap.size := (Array.getElem?_eq_some_iff.1 HBX3.out).1
  have hbx4 : w3.heap[w2.heap.size]? = _ := (hb3.block _ hl2).trans HBX3.out
  have hl3 : w2.heap.size < w3.heap.size := (Array.getElem?_eq_some_iff.1 hbx4).1
  obtain ⟨q0, q1, q2, q3, q4, q5, q6, q7⟩ := ground_cells hbx4
  obtain ⟨g8, _, rfl, _⟩ := hg3
  obtain ⟨cp, hcp⟩ : ∃ cp, cp = placeZ r.vans (.slice (some ⟨g8, 0, none⟩) (r.stops.length + 1) (r.stops.length + 1)) := ⟨_, rfl⟩
  have hcps : cp.size = 67 := by rw [hcp]; exact placeZ_size _ _
  rw [← hcp]
  have hcpo : cp.all (·.oneCell') = true := by
    rw [hcp, Array.all_eq_true_iff_forall_mem]
    intro u hu
    exact placeZ_one rfl u (Array.mem_toList_iff.2 hu)
  have hst := run_storeCells_new (P := Tryz.prog) w3 90 Tryz.zeroCells90 cp (by rw [hcps]; kernel_rfl) (by rw [hcps]; kernel_rfl) hcpo
  have hfw : Array.foldl (fun (cs : Array Value) (x : Value × Nat) => cs.setIfInBounds (8 + x.snd) x.fst) ((((((((walkO.setIfInBounds 0 (.int .i64 r.vans)).setIfInBounds 1 (.int .i64 r.load)).setIfInBounds 2 (.int .i64 r.close)).setIfInBounds 3 (.int .i64 r.nodes)).setIfInBounds 4 (.int .i64 r.home)).setIfInBounds 5 (.slice aos r.stops.length caps)).setIfInBounds 6 (.slice aor r.roads.length capr)).setIfInBounds 7 (.slice (some ⟨g7, 0, none⟩) (r.stops.length + 1) (r.stops.length + 1))) cp.zipIdx 0 67 = walkZ r (.slice aos r.stops.length caps) (.slice aor r.roads.length capr) (.slice (some ⟨g7, 0, none⟩) (r.stops.length + 1) (r.stops.length + 1)) (.slice (some ⟨g8, 0, none⟩) (r.stops.length + 1) (r.stops.length + 1)) := by rw [hcp]; exact fold_walk _ _ _ _ _ _ _ _ _ _
  obtain ⟨cw, hcw⟩ : ∃ cw, cw = walkZ r (.slice aos r.stops.length caps) (.slice aor r.roads.length capr) (.slice (some ⟨g7, 0, none⟩) (r.stops.length + 1) (r.stops.length + 1)) (.slice (some ⟨g8, 0, none⟩) (r.stops.length + 1) (r.stops.length + 1)) := ⟨_, rfl⟩
  rw [← hcw] at hfw
  obtain ⟨W0, hW0⟩ : ∃ W0, W0 = w3.alloc (.cells cp 90) := ⟨_, rfl⟩
  have hz0 : W0.heap.size = w3.heap.size + 1 := by rw [hW0]; simp
  have hb30 : Below w3.heap.size w3 W0 := by rw [hW0]; exact below1 w3 _
  have HWA : Hid (WalkAt W0 (W0.alloc (.cells cw 222)) (w3.heap.size + 1) r none [] (.slice aos r.stops.length caps) (.slice (some ⟨g7, 0, none⟩) (r.stops.length + 1) (r.stops.length + 1)) (.slice (some ⟨g8, 0, none⟩) (r.stops.length + 1) (r.stops.length + 1))) := by
    have h := walkZ_at W0 r (.slice aos r.stops.length caps) (.slice aor r.roads.length capr) (.slice (some ⟨g7, 0, none⟩) (r.stops.length + 1) (r.stops.length + 1)) (.slice (some ⟨g8, 0, none⟩) (r.stops.length + 1) (r.stops.length + 1)) 222
    rw [← hcw, hz0] at h
    exact h
  have HB0 : Hid (Below w.heap.size w W0) := HB3.out.trans (hb30.mono HB3.out.size)
  have HST0 := hid (HST3.out.below hb30)
  have HSQ20 := hid (HSQ2'.out.below hb30)
  have HSQ30 := hid (HSQ3.out.below hb30)
  have HW0 := hid hW0
  have HZ0 := hid hz0
  clear hcw hW0 hb30 hz0 HSQ3 HSQ2' HST3
  have hzw := zero_walk
  have hzs := walkO_size
  have HCP := hid hcp
  clear hcp hcpo hb3 hb23 HS2 HR2 HBX3 HBW2 hbx4 hl2 HSQ2
  go_wp2_with fail
  refine wp_load_row (P := Tryz.prog) 90 (.tmp 12) rfl w3.heap.size rfl 90 cp (0, 0) _ (heap_alloc_new w3 _) Tryz.underlying90 rfl (by rw [hcps]; kernel_rfl) ?_
  go_wp2_with fail
  rw [← HW0.out]
  refine (take_any W0 _ (w3.heap.size + 1) r l _ _ _ HOK.out hl HWA.out HST0.out HSQ20.out).mono ?_
  rintro e4 w4 ⟨rfl, hw4, hb4⟩
  have hwz : w.heap.size ≤ w3.heap.size + 1 := by have := HB0.out.size; rw [HZ0.out] at this; exact this
  have HB4 : Hid (Below w.heap.size w w4) := HB0.out.trans (hb4.mono hwz)
  have HW4 := hid hw4
  clear hb4 hw4 HWA hst hzw hzs hfw hcps q0 q1 q2 q3 q4 q5 q6 q7 HCP HW0
  by_cases hc : (claimS r l.data.toList).2 = 0
  · have HA : Hid (checkS r l.data.toList t.data.toList = if (readT t.data.toList).2.2 ≠ 0 then ((readT t.data.toList).2.1, 14) else if firstW (insOf r (siteD r)) (claimS r l.data.toList).1 [] (readT t.data.toList).1 0 = 0 then (0, 0) else (firstW (insOf r (siteD r)) (claimS r l.data.toList).1 [] (readT t.data.toList).1 0, 15)) := by show _ = _; unfold checkS; rw [if_neg (by omega)]
    have HWK := hid (HW4.out hc)
    rw [hc]
    have ht1 := ht.1
    have HRD := hid (tread_s t w4 ht)
    clear ht
    have HTO := hid (readT_ok (s := t.data.toList))
    have hLL := readT_len t.data.toList
    rw [show t.data.toList.length = t.size by simp] at hLL
    generalize readT t.data.toList = R at *
    obtain ⟨L, line, er⟩ := R
    generalize (claimS r l.data.toList).1 = cl at *
    dsimp only at HA HTO hLL
    clear HW4 hc
    by_cases he : er = 0
    · subst he
      rw [if_neg (by simp)] at HA
      have HTR := hid (HTO.out rfl).1
      clear HTO
      go_wp2_with fail
      refine HRD.out.mono ?_
      rintro e5 w5 ⟨_, h5, hb5⟩
      obtain ⟨v5, rfl, hn5⟩ := h5 rfl
      have HN5 := hid hn5
      have HWK5 := hid (HWK.out.mv hb5)
      have hz4 : w3.heap.size + 1 < w4.heap.size := HWK.out.arcs.lt
      obtain ⟨us, _, ho5, _⟩ := hn5
      obtain ⟨av, cv, rfl, _, _⟩ := own_val ho5
      clear ho5 h5 hb5 HRD
      dsimp only
      go_wp2_with fail
      go_loopw [16] (fun i wr => ∃ (k : Nat) (P : PathT), i = .int .i64 k ∧ k ≤ L.length ∧ Hid (PathOk r.stops.length P) ∧ Hid (WalkAt W0 wr (w3.heap.size + 1) r cl P (.slice aos r.stops.length caps) (.slice (some ⟨g7, 0, none⟩) (r.stops.length + 1) (r.stops.length + 1)) (.slice (some ⟨g8, 0, none⟩) (r.stops.length + 1) (r.stops.length + 1))) ∧ Hid (NodesR wr w4.heap.size (.slice av L.length cv) L) ∧ Hid (firstW (insOf r (siteD r)) cl [] L 0 = firstW (insOf r (siteD r)) cl P (L.drop k) k)) (fun i _ => L.length - (intOf i).toNat)
      case atStart => exact ⟨0, [], rfl, Nat.zero_le _, PathOk.nil, HWK5, HN5, rfl⟩
      case round =>
        obtain ⟨k, P, rfl, hk, HP, HWR, HNR, HFW⟩ := hrel
        by_cases hlt : k < L.length
        · obtain ⟨gn, cn, ao, c', hv, hgb, hgl, x0, x1, hlr⟩ := HNR.out.at hlt
          cases hv
          have HLR := hid hlr
          have HFT := hid (node_facts HTR.out (List.getElem_mem hlt))
          have HDR := hid (List.drop_eq_getElem_cons hlt)
          generalize L[k] = nd at *
          have HSA := hid (step_any W0 wr (w3.heap.size + 1) r cl P _ _ _ _ _ nd HOK.out HP.out (by have := path_depth hns HP.out; omega) HFT.out.1 HFT.out.2.1 HFT.out.2.2 HLR.out HWR.out HST0.out HSQ20.out HSQ30.out)
          have hk1 : (k : Int) + 1 ≤ 70368744177700 := by omega
          clear hlr HFT
          cases hst : stepW (insOf r (siteD r)) cl P nd with
          | none =>
            have HF1 : Hid (firstW (insOf r (siteD r)) cl [] L 0 = k + 1) := by show _ = _; rw [HFW.out, HDR.out, firstW_cons, hst]
            rw [hst] at HSA
            have HA1 : Hid (checkS r l.data.toList t.data.toList = (k + 1, 15)) := by show _ = _; rw [HA.out, HF1.out, if_neg (by omega)]
            clear HFW HDR hst HF1 HA
            go_wp2_with fail
            refine HSA.out.mono ?_
            rintro e6 w6 ⟨h6, _⟩
            obtain ⟨rfl, hb6⟩ := h6 (by simp)
            have HB6 := hid hb6
            clear hb6 h6 HSA
            go_wp2_with fail
            refine bodyPost_ret (v := .tuple #[.int .i64 ((k : Int) + 1), .int .i64 15]) (by simp [results, Tryz.results93, go_sem]) rfl ?_
            exact ⟨by rw [HA1.out]; rfl, HB0.out.trans (HB6.out.mono hwz)⟩
          | some P' =>
            have HF1 : Hid (firstW (insOf r (siteD r)) cl [] L 0 = firstW (insOf r (siteD r)) cl P' (L.drop (k + 1)) (k + 1)) := by show _ = _; rw [HFW.out, HDR.out, firstW_cons, hst]
            have HP1 : Hid (PathOk r.stops.length P') := path_step (I := insOf r (siteD r)) HP.out hst
            rw [hst] at HSA
            clear HFW HDR hst
            go_wp2_with fail
            refine HSA.out.mono ?_
            rintro e6 w6 ⟨_, h6⟩
            obtain ⟨rfl, hw6, hk6⟩ := h6 P' (by simp)
            have HW6 := hid hw6
            have HN6 : Hid (NodesR w6 w4.heap.size (.slice (some ⟨gn, 0, none⟩) L.length cv) L) := HNR.out.kept hz4 HWR.out hk6
            clear hw6 hk6 h6 HSA
            go_wp2_with fail
            go_roundw
            case rel => exact ⟨k + 1, P', by go_num, by omega, HP1, HW6, HN6, HF1⟩
            case measure => simp [intOf]; omega
        · obtain rfl : k = L.length := by omega
          have HF1 : Hid (firstW (insOf r (siteD r)) cl [] L 0 = 0) := by show _ = _; rw [HFW.out, List.drop_length]; rfl
          have HA1 : Hid (checkS r l.data.toList t.data.toList = (0, 0)) := by show _ = _; rw [HA.out, HF1.out, if_pos rfl]
          clear HFW HF1 HA
          go_wp2_with fail
          refine bodyPost_ret (v := .tuple #[.int .i64 0, .int .i64 0]) (by simp [results, Tryz.results93, go_sem]) rfl ?_
          exact ⟨by rw [HA1.out]; rfl, HB0.out.trans (HWR.out.below.mono hwz)⟩
    · have HA1 : Hid (checkS r l.data.toList t.data.toList = (line, 14)) := by show _ = _; rw [HA.out, if_pos he]
      have HNE := hid he
      clear HA HTO he
      go_wp2_with fail
      refine HRD.out.mono ?_
      rintro e5 w5 ⟨h5, _, hb5⟩
      obtain rfl := h5 HNE.out
      have HB5 : Hid (Below w.heap.size w w5) := HB4.out.trans (hb5.mono HB4.out.size)
      clear h5 hb5 HRD
      dsimp only
      go_wp2_with fail
      refine bodyPost_ret (v := .tuple #[.int .i64 (line : Int), .int .i64 14]) (by simp [results, Tryz.results93, go_sem]) rfl ?_
      exact ⟨by rw [HA1.out], HB5.out⟩
  · have HA : Hid (checkS r l.data.toList t.data.toList = (0, (claimS r l.data.toList).2)) := by show _ = _; unfold checkS; rw [if_pos hc]
    have b1 : ((claimS r l.data.toList).2 != 0) = true := by simpa using hc
    clear HW4 hc
    go_wp2_with fail
    refine bodyPost_ret (v := .tuple #[.int .i64 0, .int .i64 (claimS r l.data.toList).2]) (by simp [results, Tryz.results93, go_sem]) rfl ?_
    exact ⟨by rw [HA.out]; rfl, HB4.out⟩
end Go.Proofs.YtebinaopncclgabGreatDoor
namespace Go.Proofs.YtebinaopncclgabGreatDoor
open Go.ChangeShapes Go.WideShapes Go.ChangeAt Go.RowKit Go.Deep

theorem own : ownKnob Tryz.prog.godebug = none := by kernel_rfl
theorem laidOut : laidOutB Tryz.prog = true := by kernel_rfl

/- a struct whose fields are ints, one cell each -/
theorem ints_of {H : Type} {enc : TypeId × Value → H} {P : Program} {w : World} {base : Nat} {spare : Nat → Bool} {held : Bool} {e : TypeId} {fs : Array Field} {fuel k : Nat} {cs : List Value} {x : DataW H × List MemPlace}
    (he : P.underlying e = some (.struct fs)) (hk : k ≤ fs.size) (hf : ∀ i, i < k → ∃ f, fs[i]? = some f ∧ f.offset = i ∧ P.cellsOf f.type = 1 ∧ P.underlying f.type = some (.int .i64))
    (h : DataW.trod enc P w base spare held fuel e cs = some x) : ∀ i, i < k → ∃ z, cs[i]? = some (.int .i64 z) ∧ (Lit.int .i64 z).wf = true := by
  intro i hi
  obtain ⟨xs, n, _, _, _, hxl, hfl⟩ := DataW.trod_struct he h
  obtain ⟨f, hfi, ho, hc, hu⟩ := hf i hi
  have g := hfl i f hfi
  rw [ho, hc] at g
  have hxi : i < xs.length := by omega
  rw [List.getElem?_eq_getElem hxi] at g
  obtain ⟨z, hz, _, hw⟩ := DataW.trod_int hu g
  refine ⟨z, ?_, hw⟩
  have := congrArg (fun l => l[0]?) hz
  simpa using this
theorem wf_range {z : Int} (h : (Lit.int .i64 z).wf = true) : -9223372036854775808 ≤ z ∧ z ≤ 9223372036854775807 := by
  simp [Lit.wf, IntKind.min, IntKind.max, IntKind.signed, IntKind.bits] at h
  exact ⟨by omega, by omega⟩
/- a list of such structs that came in -/
theorem came_of {H : Type} {enc : TypeId × Value → H} {P : Program} {w : World} {held : Bool} {t e : TypeId} {fs : Array Field} {fuel k : Nat} {c : Value} {x : DataW H × List MemPlace}
    (ht : P.underlying t = some (.slice e)) (he : P.underlying e = some (.struct fs)) (hk : k ≤ fs.size) (hce : P.cellsOf e = k) (hf : ∀ i, i < k → ∃ f, fs[i]? = some f ∧ f.offset = i ∧ P.cellsOf f.type = 1 ∧ P.underlying f.type = some (.int .i64)) (hk0 : 0 < k)
    (h : DataW.trod enc P w 0 (fun _ => true) held fuel t [c] = some x) :
    ∃ ao len cap S, c = .slice ao len cap ∧ len ≤ 9223372036854775807 ∧ Came w ao len k S := by
  rcases open_slice ht h with ⟨hcs, _⟩ | ⟨a, len, cap, m, n, D, Pl, hcs, _, hl, hm, hmm, _, hx⟩
  · cases hcs
    exact ⟨none, 0, 0, fun _ _ => 0, rfl, by omega, fun h => absurd h (by omega)⟩
  · cases hcs
    simp only [if_true] at hmm
    subst hmm
    have each : ∀ i, i < len → ∃ s : Nat → Int, ∀ j, j < k → w.cell? (a.add (i * k + j)) = some (.int .i64 (s j)) ∧ (Lit.int .i64 (s j)).wf = true := by
      intro i hi
      obtain ⟨cs', h1, h2⟩ := hx i (by omega)
      rw [hce] at h1
      obtain ⟨_, hlen, hcell⟩ := World.cells?_some h1
      have hz := ints_of he hk hf h2
      obtain ⟨s, hs⟩ := choose_lt (α := Int) hz
      refine ⟨s, fun j hj => ⟨?_, (hs j hj).2⟩⟩
      have e1 := hcell j (by omega)
      rw [add_add] at e1
      rw [e1]; exact (hs j hj).1
    obtain ⟨S, hS⟩ := choose_lt (α := Nat → Int) each
    refine ⟨some a, len, _, S, rfl, by unfold maxLen at hm; omega, fun hn => ?_⟩
    obtain ⟨b, off, spot⟩ := a
    have hc0 := (hS 0 hn 0 hk0).1
    have hspot : spot = none := by simpa [Addr.add] using World.cell?_spot hc0
    subst hspot
    refine ⟨b, off, rfl, ?_, fun i j hi hj => ?_⟩
    · rw [Addr.add_lit] at hc0; exact World.block_lt_of_cell? w _ hc0
    · have h1 := hS i hi j hj
      refine ⟨?_, wf_range h1.2⟩
      have h2 := h1.1
      rw [Addr.add_lit, ← Nat.add_assoc] at h2
      exact h2
theorem array7 {α : Type} {cs : Array α} (h : cs.size = 7) : ∃ c0 c1 c2 c3 c4 c5 c6, cs = #[c0, c1, c2, c3, c4, c5, c6] := by
  obtain ⟨l⟩ := cs
  match l, h with
  | [c0, c1, c2, c3, c4, c5, c6], _ => exact ⟨c0, c1, c2, c3, c4, c5, c6, rfl⟩

theorem stopFields {fs : Array Field} (h : Tryz.prog.underlying 62 = some (.struct fs)) : fs.size = 5 ∧ ∀ i, i < 5 → ∃ f, fs[i]? = some f ∧ f.offset = i ∧ Tryz.prog.cellsOf f.type = 1 ∧ Tryz.prog.underlying f.type = some (.int .i64) := by
  have hc : Tryz.prog.cellsOf 3 = 1 := by kernel_rfl
  rw [Tryz.underlying62] at h
  cases h
  refine ⟨rfl, fun i hi => ?_⟩
  match i, hi with
  | 0, _ => exact ⟨_, rfl, rfl, hc, Tryz.underlying3⟩
  | 1, _ => exact ⟨_, rfl, rfl, hc, Tryz.underlying3⟩
  | 2, _ => exact ⟨_, rfl, rfl, hc, Tryz.underlying3⟩
  | 3, _ => exact ⟨_, rfl, rfl, hc, Tryz.underlying3⟩
  | 4, _ => exact ⟨_, rfl, rfl, hc, Tryz.underlying3⟩
theorem roadFields {fs : Array Field} (h : Tryz.prog.underlying 64 = some (.struct fs)) : fs.size = 3 ∧ ∀ i, i < 3 → ∃ f, fs[i]? = some f ∧ f.offset = i ∧ Tryz.prog.cellsOf f.type = 1 ∧ Tryz.prog.underlying f.type = some (.int .i64) := by
  have hc : Tryz.prog.cellsOf 3 = 1 := by kernel_rfl
  rw [Tryz.underlying64] at h
  cases h
  refine ⟨rfl, fun i hi => ?_⟩
  match i, hi with
  | 0, _ => exact ⟨_, rfl, rfl, hc, Tryz.underlying3⟩
  | 1, _ => exact ⟨_, rfl, rfl, hc, Tryz.underlying3⟩
  | 2, _ => exact ⟨_, rfl, rfl, hc, Tryz.underlying3⟩
/- an instance that came in -/
set_option maxRecDepth 100000 in
theorem open_inst {H : Type} {enc : TypeId × Value → H} {W : World} {base : Nat} {v : Value} {d : DataW H} {p : List MemPlace} (hv : Value.okWide Tryz.prog W .any base 28 v) (h : DataW.Trod enc Tryz.prog W 0 (fun _ => true) true 28 v d p) :
    ∃ (X : Nat → Int) (S T : Nat → Nat → Int) (aS aR : Option Addr) (n m cn cm : Nat), v = .agg #[.int .i64 (X 0), .int .i64 (X 1), .int .i64 (X 2), .int .i64 (X 3), .int .i64 (X 4), .slice aS n cn, .slice aR m cm] ∧
      (∀ i, i < 5 → -9223372036854775808 ≤ X i ∧ X i ≤ 9223372036854775807) ∧ n ≤ 9223372036854775807 ∧ m ≤ 9223372036854775807 ∧ Came W aS n 5 S ∧ Came W aR m 3 T := by
  obtain ⟨cs, rfl, hsz⟩ := okWide_struct Tryz.underlying28 hv
  have hC : Tryz.prog.cellsOf 28 = 7 := by kernel_rfl
  have hc1 : Tryz.prog.cellsOf 3 = 1 := by kernel_rfl
  have hc2 : Tryz.prog.cellsOf 25 = 1 := by kernel_rfl
  have hc3 : Tryz.prog.cellsOf 26 = 1 := by kernel_rfl
  obtain ⟨c0, c1, c2, c3, c4, c5, c6, rfl⟩ := array7 (hsz.trans hC)
  obtain ⟨fuel, hf⟩ := h
  obtain ⟨xs, n, _, _, _, hxl, hfl⟩ := DataW.trod_struct Tryz.underlying28 hf
  have hx : ∀ i, i < 7 → ∃ y, xs[i]? = some y := fun i hi => ⟨_, List.getElem?_eq_getElem (by rw [hxl]; exact hi)⟩
  obtain ⟨y0, e0⟩ := hx 0 (by omega)
  obtain ⟨y1, e1⟩ := hx 1 (by omega)
  obtain ⟨y2, e2⟩ := hx 2 (by omega)
  obtain ⟨y3, e3⟩ := hx 3 (by omega)
  obtain ⟨y4, e4⟩ := hx 4 (by omega)
  obtain ⟨y5, e5⟩ := hx 5 (by omega)
  obtain ⟨y6, e6⟩ := hx 6 (by omega)
  have g0 : DataW.trod enc Tryz.prog W 0 (fun _ => true) true n 3 [c0] = some y0 := by simpa [hc1, Value.cells] using (hfl 0 _ rfl).trans e0
  have g1 : DataW.trod enc Tryz.prog W 0 (fun _ => true) true n 3 [c1] = some y1 := by simpa [hc1, Value.cells] using (hfl 1 _ rfl).trans e1
  have g2 : DataW.trod enc Tryz.prog W 0 (fun _ => true) true n 3 [c2] = some y2 := by simpa [hc1, Value.cells] using (hfl 2 _ rfl).trans e2
  have g3 : DataW.trod enc Tryz.prog W 0 (fun _ => true) true n 3 [c3] = some y3 := by simpa [hc1, Value.cells] using (hfl 3 _ rfl).trans e3
  have g4 : DataW.trod enc Tryz.prog W 0 (fun _ => true) true n 3 [c4] = some y4 := by simpa [hc1, Value.cells] using (hfl 4 _ rfl).trans e4
  have g5 : DataW.trod enc Tryz.prog W 0 (fun _ => true) true n 25 [c5] = some y5 := by simpa [hc2, Value.cells] using (hfl 5 _ rfl).trans e5
  have g6 : DataW.trod enc Tryz.prog W 0 (fun _ => true) true n 26 [c6] = some y6 := by simpa [hc3, Value.cells] using (hfl 6 _ rfl).trans e6
  obtain ⟨z0, q0, _, w0⟩ := DataW.trod_int Tryz.underlying3 g0
  obtain ⟨z1, q1, _, w1⟩ := DataW.trod_int Tryz.underlying3 g1
  obtain ⟨z2, q2, _, w2⟩ := DataW.trod_int Tryz.underlying3 g2
  obtain ⟨z3, q3, _, w3⟩ := DataW.trod_int Tryz.underlying3 g3
  obtain ⟨z4, q4, _, w4⟩ := DataW.trod_int Tryz.underlying3 g4
  cases q0; cases q1; cases q2; cases q3; cases q4
  obtain ⟨aS, len, cap, S, rfl, hl, hS⟩ := came_of (c := c5) Tryz.underlying25 Tryz.underlying62 (k := 5) (Nat.le_of_eq (stopFields Tryz.underlying62).1.symm) (by kernel_rfl) (stopFields Tryz.underlying62).2 (by omega) g5
  obtain ⟨aR, len', cap', T, rfl, hl', hT⟩ := came_of (c := c6) Tryz.underlying26 Tryz.underlying64 (k := 3) (Nat.le_of_eq (roadFields Tryz.underlying64).1.symm) (by kernel_rfl) (roadFields Tryz.underlying64).2 (by omega) g6
  refine ⟨fun i => [z0, z1, z2, z3, z4].getD i 0, S, T, aS, aR, len, len', cap, cap', rfl, fun i hi => ?_, hl, hl', hS, hT⟩
  match i, hi with
  | 0, _ => exact wf_range w0
  | 1, _ => exact wf_range w1
  | 2, _ => exact wf_range w2
  | 3, _ => exact wf_range w3
  | 4, _ => exact wf_range w4
end Go.Proofs.YtebinaopncclgabGreatDoor
namespace Go.Proofs.YtebinaopncclgabGreatDoor
open Go.RowKit Go.IntWalk

theorem stop_want {r : Rd} (hok : RdOk r) (k : Nat) : 0 ≤ stopV r k 1 := by
  unfold stopV
  by_cases h : k - 1 < r.stops.length
  · obtain ⟨b0, b1, b2, b3, b4, hab, hsk⟩ := hok.stops _ (List.getElem_mem h)
    have hg' : r.stops.getD (k - 1) [] = [b0, b1, b2, b3, b4] := by rw [List.getD_eq_getElem?_getD, List.getElem?_eq_getElem h, Option.getD_some, hab]
    simp only [stopOk, Bool.and_eq_true, fit_iff, decide_eq_true_eq] at hsk
    rw [hg']
    show 0 ≤ b1
    omega
  · have hg' : r.stops.getD (k - 1) [] = [] := by rw [List.getD_eq_getElem?_getD, List.getElem?_eq_none (by omega)]; rfl
    rw [hg']
    exact Int.le_refl _
theorem drv_judge {r : Rd} {D : Nat → Nat → Int} {l : List UInt8} (hok : RdOk r) :
    (∀ C S, drvS r D l = some (C, S) → judgeS r D l = (C, some S, 0)) ∧ (drvS r D l = none → ∃ e, e ≠ 0 ∧ judgeS r D l = (0, none, e)) := by
  have hld : 0 ≤ r.load := by have := headOk_iff.1 hok.head; omega
  unfold drvS judgeS
  by_cases hf : textFaultS r.stops.length l = 0
  · have hb : ∀ c ∈ l, c = 47 ∨ 49 ≤ c.toNat := fun c hc => by
      rcases plan_bytes (fine_size hf).2.1 c hc with h | h
      · exact .inl h
      · exact .inr h.1
    rw [if_neg (show ¬ textFaultS r.stops.length l ≠ 0 by omega)]
    by_cases hv : r.vans < ((routesS l).length : Int)
    · rw [if_neg (fun h => h.2 hv), if_pos hv]
      exact ⟨fun C S e => (by cases e), fun _ => ⟨8, by omega, rfl⟩⟩
    · rw [if_pos ⟨hf, hv⟩, if_neg hv]
      obtain ⟨h1, h2⟩ := driven_good (r := r) (D := D) (Z := List.replicate r.stops.length 0) (stop_want hok) hld hb
      refine ⟨fun C S e => ?_, fun e => ?_⟩
      · obtain ⟨k1, k2, k3, k4⟩ := h1 C S e
        rw [if_neg (by rw [k1]; simp), if_neg (by rw [k2]; simp), k3, k4]
      · have h3 := h2 e
        by_cases g1 : (routesS l).all (loadOk r) = false
        · rw [if_pos g1]; exact ⟨9, by omega, rfl⟩
        · rw [if_neg g1]
          by_cases g2 : (routesS l).all (wayOk D) = false
          · rw [if_pos g2]; exact ⟨10, by omega, rfl⟩
          · rw [if_neg g2]
            cases ht : timesS r D (routesS l) (List.replicate r.stops.length 0) with
            | none => exact ⟨11, by omega, rfl⟩
            | some S => exact absurd ⟨by simpa using g1, by simpa using g2, by rw [ht]; simp⟩ h3
  · rw [if_neg (fun h => hf h.1), if_pos hf]
    exact ⟨fun C S e => (by cases e), fun _ => ⟨_, hf, rfl⟩⟩
theorem Grid.sq {w : World} {B : Nat} {v : Value} {n : Nat} {D : Nat → Nat → Int} (h : Grid w B v n D) (hn : n ≤ 100) : SqR w v n D := by
  obtain ⟨g, rfl, hg, hr⟩ := h
  refine ⟨_, _, rfl, hn, fun i hi => ?_⟩
  obtain ⟨gi, h1, h2, h3⟩ := hr i hi
  exact ⟨g, gi, n, rfl, hg.2, h1, h2.2, h3⟩

set_option maxRecDepth 100000 in
set_option maxHeartbeats 2000000 in
theorem kways_any (B : Nat) (r : Rd) (vs vr : Value) (w : World) (hok : RdOk r) (hs : w.ownsRow B 62 5 vs r.stops.length (ints r.stops.flatten)) (hr : w.ownsRow B 64 3 vr r.roads.length (ints r.roads.flatten)) :
    Calls Tryz.prog 12 #[inst r vs vr] w fun e w' => ∃ v, e = .returned (.tuple #[v, .bool true]) ∧ Grid w' w.heap.size v (r.stops.length + 1) (siteD r) ∧ Below w.heap.size w w' := by
  have hns := hok.nstops
  obtain ⟨aos, caps, rfl, _, _⟩ := own_val hs
  obtain ⟨aor, capr, rfl, _, _⟩ := own_val hr
  obtain ⟨W, hW⟩ : ∃ W, W = w.alloc (.cells (yCells r (.slice aos r.stops.length caps) (.slice aor r.roads.length capr)) 28) := ⟨_, rfl⟩
  obtain ⟨hbW, hbox, k0, k1, k2, k3, k4, k5, k6⟩ := inst_box hW
  have HT := hid (text0_any B B r (.slice aos r.stops.length caps) (.slice aor r.roads.length capr) W hok.nice (own_below hs hbW) (own_below hr hbW))
  have HW : Hid (∀ W', Calls Tryz.prog 22 #[.string ⟨(textL r).toArray⟩] W' fun e w' => ∃ v, e = .returned (.tuple #[v, .int .i64 0]) ∧ Grid w' W'.heap.size v (r.stops.length + 1) (siteD r) ∧ Below W'.heap.size W' w') := fun W' => ways_text hok W'
  have HBW := hid hbW
  have HWQ := hid hW
  clear hs hr hok hW hbW
  unfold yCells inst at *
  go_enter Tryz.func12, Tryz.ntmps12
  go_wp2_with fail
  rw [← HWQ.out]
  refine HT.out.mono ?_
  rintro e1 w1 ⟨rfl, hb1⟩
  have HB1 : Hid (Below W.heap.size W w1) := hb1
  clear hb1 HT
  go_wp2_with fail
  refine (HW.out _).mono ?_
  rintro e2 w2 ⟨v2, rfl, hg2, hb2⟩
  have HG2 := hid hg2
  have HB2 : Hid (Below W.heap.size W w2) := HB1.out.trans (hb2.mono HB1.out.size)
  have y5 : w2.cell? _ = _ := (HB2.out.cell (by exact hbox)).trans k5
  have hbx : w.heap.size < w2.heap.size := Nat.lt_of_lt_of_le hbox HB2.out.size
  have HSQ := hid (square_any (r.stops.length + 1) _ v2 (siteD r) w2 (by omega) hg2)
  obtain ⟨g, rfl, _⟩ := hg2
  clear hb2
  go_wp2_with (first
    | (go_at_call 23; refine HSQ.out.mono ?_; rintro e3 w3 ⟨he3, hw3⟩; subst he3; rw [hw3]; clear hw3 w3)
    | go_in)
  go_ret2
  exact ⟨_, rfl, HG2.out.base (Nat.le_trans HBW.out.size HB1.out.size), HBW.out.trans (HB2.out.mono HBW.out.size)⟩

end Go.Proofs.YtebinaopncclgabGreatDoor
namespace Go.Proofs.YtebinaopncclgabGreatDoor
open Go.RowKit Go.IntWalk

set_option maxRecDepth 100000 in
set_option maxHeartbeats 2000000 in
theorem dcheck_ok (s l t : ByteArray) (r : Rd) (w : World) (hs : s.size ≤ maxLen) (hl : l.size ≤ maxLen) (ht : ShortT t) (hp : parseS s.data.toList = (r, 0, 0)) (hok : RdOk r) :
    Calls Tryz.prog 43 #[.string s, .string l, .string t] w fun e w' => e = .returned (.tuple #[.int .i64 (checkS r l.data.toList t.data.toList).1, .int .i64 (checkS r l.data.toList t.data.toList).2]) ∧ Below w.heap.size w w' := by
  have HC := hid (gcheck_ok s l t r w hs hl ht hp hok)
  generalize checkS r l.data.toList t.data.toList = x at *
  clear hp hok
  go_enter Tryz.func43, Tryz.ntmps43
  go_wp2_with fail
  refine HC.out.mono ?_
  rintro e1 w1 ⟨rfl, hb1⟩
  have HB := hid hb1
  clear hb1 HC
  go_wp2
  go_ret2
  exact ⟨rfl, HB.out⟩

open Classical in
set_option maxRecDepth 100000 in
set_option maxHeartbeats 2000000 in
theorem shows_ok (s l t : ByteArray) (r : Rd) (w : World) (hs : s.size ≤ maxLen) (hl : l.size ≤ maxLen) (ht : ShortT t) (hp : parseS s.data.toList = (r, 0, 0)) (hok : RdOk r) :
    Calls Tryz.prog 25 #[.string s, .string l, .string t] w fun e w' => e = .returned (.bool (decide (checkS r l.data.toList t.data.toList = (0, 0)))) ∧ Below w.heap.size w w' := by
  have HC := hid (dcheck_ok s l t r w hs hl ht hp hok)
  generalize checkS r l.data.toList t.data.toList = x at *
  obtain ⟨x1, x2⟩ := x
  clear hp hok
  by_cases h2 : x2 = 0
  · subst h2
    by_cases h1 : x1 = 0
    · subst h1
      have HD : Hid (decide (((0 : Nat), (0 : Int)) = (0, 0)) = true) := by show _ = _; simp
      go_enter Tryz.func25, Tryz.ntmps25
      go_wp2_with fail
      refine HC.out.mono ?_
      rintro e1 w1 ⟨rfl, hb1⟩
      have HB := hid hb1
      clear hb1 HC
      go_wp2
      go_ret
      exact ⟨ret_bool (by rw [HD.out]), HB.out⟩
    · have b1 : ((x1 : Int) == 0) = false := by simpa using h1
      have HD : Hid (decide ((x1, (0 : Int)) = (0, 0)) = false) := by show _ = _; simpa using h1
      go_enter Tryz.func25, Tryz.ntmps25
      go_wp2_with fail
      refine HC.out.mono ?_
      rintro e1 w1 ⟨rfl, hb1⟩
      have HB := hid hb1
      clear hb1 HC
      go_wp2
      go_ret
      exact ⟨ret_bool (by rw [HD.out]), HB.out⟩
  · have b1 : (x2 == 0) = false := by simpa using h2
    have HD : Hid (decide ((x1, x2) = ((0 : Nat), (0 : Int))) = false) := by show _ = _; simp [h2]
    go_enter Tryz.func25, Tryz.ntmps25
    go_wp2_with fail
    refine HC.out.mono ?_
    rintro e1 w1 ⟨rfl, hb1⟩
    have HB := hid hb1
    clear hb1 HC
    go_wp2
    go_ret
    exact ⟨ret_bool (by rw [HD.out]), HB.out⟩
end Go.Proofs.YtebinaopncclgabGreatDoor
namespace Go.Proofs.YtebinaopncclgabGreatDoor
open Go.RowKit Go.IntWalk

theorem drv_of {r : Rd} (hok : RdOk r) {l : List UInt8} {c : Int} {S : List Int} (h : judgeS r (siteD r) l = (c, some S, 0)) : drvS r (siteD r) l = some (c, S) := by
  obtain ⟨h1, h2⟩ := drv_judge (D := siteD r) (l := l) hok
  cases hd : drvS r (siteD r) l with
  | none => obtain ⟨e, he, hj⟩ := h2 hd; rw [hj] at h; cases h
  | some cs => obtain ⟨C, S'⟩ := cs; have hj := h1 C S' hd; rw [hj] at h; cases h; rfl
end Go.Proofs.YtebinaopncclgabGreatDoor
