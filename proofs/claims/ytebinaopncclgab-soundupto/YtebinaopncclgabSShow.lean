/- Walks: what Check says of a tree. -/
import Derived.Test.YtebinaopncclgabDrvD
import Derived.Test.YtebinaopncclgabGNodes
import Derived.Test.YtebinaopncclgabWRange
import Derived.Test.YtebinaopncclgabGCheck
namespace Go.Proofs.Ytebinaopncclgab
open Go.RowKit Go.IntWalk

theorem stop_want {r : Rd} (hok : RdOk r) (k : Nat) : 0 ≤ stopV r k 1 := by
  unfold stopV
  by_cases h : k - 1 < r.stops.length
  · obtain ⟨b0, b1, b2, b3, b4, hab, hsk⟩ := hok.stops _ (List.getElem_mem h)
    have hg' : r.stops.getD (k - 1) [] = [b0, b1, b2, b3, b4] := by rw [List.getD_eq_getElem?_getD, List.getElem?_eq_getElem h, Option.getD_some, hab]
    simp only [stopOk, Bool.and_eq_true, fit_iff, decide_eq_true_eq] at hsk
    rw [hg']
    show 0 ≤ b1
    omega
  · have hg' : r.stops.getD (k - 1) [] = [] := by rw [List.getD_eq_getElem?_getD, List.getElem?_eq_none (by omega)]; rfl
    rw [hg']
    exact Int.le_refl _
theorem drv_judge {r : Rd} {D : Nat → Nat → Int} {l : List UInt8} (hok : RdOk r) :
    (∀ C S, drvS r D l = some (C, S) → judgeS r D l = (C, some S, 0)) ∧ (drvS r D l = none → ∃ e, e ≠ 0 ∧ judgeS r D l = (0, none, e)) := by
  have hld : 0 ≤ r.load := by have := headOk_iff.1 hok.head; omega
  unfold drvS judgeS
  by_cases hf : textFaultS r.stops.length l = 0
  · have hb : ∀ c ∈ l, c = 47 ∨ 49 ≤ c.toNat := fun c hc => by
      rcases plan_bytes (fine_size hf).2.1 c hc with h | h
      · exact .inl h
      · exact .inr h.1
    rw [if_neg (show ¬ textFaultS r.stops.length l ≠ 0 by omega)]
    by_cases hv : r.vans < ((routesS l).length : Int)
    · rw [if_neg (fun h => h.2 hv), if_pos hv]
      exact ⟨fun C S e => (by cases e), fun _ => ⟨8, by omega, rfl⟩⟩
    · rw [if_pos ⟨hf, hv⟩, if_neg hv]
      obtain ⟨h1, h2⟩ := driven_good (r := r) (D := D) (Z := List.replicate r.stops.length 0) (stop_want hok) hld hb
      refine ⟨fun C S e => ?_, fun e => ?_⟩
      · obtain ⟨k1, k2, k3, k4⟩ := h1 C S e
        rw [if_neg (by rw [k1]; simp), if_neg (by rw [k2]; simp), k3, k4]
      · have h3 := h2 e
        by_cases g1 : (routesS l).all (loadOk r) = false
        · rw [if_pos g1]; exact ⟨9, by omega, rfl⟩
        · rw [if_neg g1]
          by_cases g2 : (routesS l).all (wayOk D) = false
          · rw [if_pos g2]; exact ⟨10, by omega, rfl⟩
          · rw [if_neg g2]
            cases ht : timesS r D (routesS l) (List.replicate r.stops.length 0) with
            | none => exact ⟨11, by omega, rfl⟩
            | some S => exact absurd ⟨by simpa using g1, by simpa using g2, by rw [ht]; simp⟩ h3
  · rw [if_neg (fun h => hf h.1), if_pos hf]
    exact ⟨fun C S e => (by cases e), fun _ => ⟨_, hf, rfl⟩⟩
theorem Grid.sq {w : World} {B : Nat} {v : Value} {n : Nat} {D : Nat → Nat → Int} (h : Grid w B v n D) (hn : n ≤ 100) : SqR w v n D := by
  obtain ⟨g, rfl, hg, hr⟩ := h
  refine ⟨_, _, rfl, hn, fun i hi => ?_⟩
  obtain ⟨gi, h1, h2, h3⟩ := hr i hi
  exact ⟨g, gi, n, rfl, hg.2, h1, h2.2, h3⟩

set_option maxRecDepth 100000 in
set_option maxHeartbeats 2000000 in
theorem kways_any (B : Nat) (r : Rd) (vs vr : Value) (w : World) (hok : RdOk r) (hs : w.ownsRow B 38 5 vs r.stops.length (ints r.stops.flatten)) (hr : w.ownsRow B 40 3 vr r.roads.length (ints r.roads.flatten)) :
    Calls Try.prog 6 #[inst r vs vr] w fun e w' => ∃ v, e = .returned (.tuple #[v, .bool true]) ∧ Grid w' w.heap.size v (r.stops.length + 1) (siteD r) ∧ Below w.heap.size w w' := by
  have hns := hok.nstops
  obtain ⟨aos, caps, rfl, _, _⟩ := own_val hs
  obtain ⟨aor, capr, rfl, _, _⟩ := own_val hr
  obtain ⟨W, hW⟩ : ∃ W, W = w.alloc (.cells (yCells r (.slice aos r.stops.length caps) (.slice aor r.roads.length capr)) 25) := ⟨_, rfl⟩
  obtain ⟨hbW, hbox, k0, k1, k2, k3, k4, k5, k6⟩ := inst_box hW
  have HT := hid (text0_any B B r (.slice aos r.stops.length caps) (.slice aor r.roads.length capr) W hok.nice (own_below hs hbW) (own_below hr hbW))
  have HW : Hid (∀ W', Calls Try.prog 11 #[.string ⟨(textL r).toArray⟩] W' fun e w' => ∃ v, e = .returned (.tuple #[v, .int .i64 0]) ∧ Grid w' W'.heap.size v (r.stops.length + 1) (siteD r) ∧ Below W'.heap.size W' w') := fun W' => ways_text hok W'
  have HBW := hid hbW
  have HWQ := hid hW
  clear hs hr hok hW hbW
  unfold yCells inst at *
  go_enter Try.func6, Try.ntmps6
  go_wp2_with fail
  rw [← HWQ.out]
  refine HT.out.mono ?_
  rintro e1 w1 ⟨rfl, hb1⟩
  have HB1 : Hid (Below W.heap.size W w1) := hb1
  clear hb1 HT
  go_wp2_with fail
  refine (HW.out _).mono ?_
  rintro e2 w2 ⟨v2, rfl, hg2, hb2⟩
  have HG2 := hid hg2
  have HB2 : Hid (Below W.heap.size W w2) := HB1.out.trans (hb2.mono HB1.out.size)
  have y5 : w2.cell? _ = _ := (HB2.out.cell (by exact hbox)).trans k5
  have hbx : w.heap.size < w2.heap.size := Nat.lt_of_lt_of_le hbox HB2.out.size
  have HSQ := hid (square_any (r.stops.length + 1) _ v2 (siteD r) w2 (by omega) hg2)
  obtain ⟨g, rfl, _⟩ := hg2
  clear hb2
  go_wp2_with (first
    | (go_at_call 12; refine HSQ.out.mono ?_; rintro e3 w3 ⟨he3, hw3⟩; subst he3; rw [hw3]; clear hw3 w3)
    | go_in)
  go_ret2
  exact ⟨_, rfl, HG2.out.base (Nat.le_trans HBW.out.size HB1.out.size), HBW.out.trans (HB2.out.mono HBW.out.size)⟩

theorem row_read {w : World} {B n : Nat} {ao : Option Addr} {c : Nat} {zs : List Int} (h : w.ownsRow B 3 1 (.slice ao n c) n (ints zs)) (hl : zs.length = n) : ∀ j, j < n → ∃ g, ao = some ⟨g, 0, none⟩ ∧ g < w.heap.size ∧ w.cell? ⟨g, j, none⟩ = some (.int .i64 (zs.getD j 0)) := by
  intro j hj
  obtain ⟨ao', c', hv, h1, h2⟩ := own_val h
  cases hv
  cases ao with
  | none => exact absurd (h2 rfl) (by omega)
  | some a =>
    obtain ⟨g, rfl, _, hg⟩ := h1 a rfl
    refine ⟨g, rfl, hg, ?_⟩
    rw [h.cellAt j (by omega)]
    simp [ints, List.getD_eq_getElem?_getD, List.getElem?_eq_getElem (show j < zs.length by omega)]

end Go.Proofs.Ytebinaopncclgab
namespace Go.Proofs.Ytebinaopncclgab
open Go.RowKit

def rE : Rd := { vans := 1, load := 5, close := 20, nodes := 2, home := 0, stops := [[1, 3, 0, 20, 0]], roads := [[0, 1, 4], [1, 0, 4]], head := true }
theorem rE_ok : RdOk rE := by
  refine ⟨by decide, ?_, ?_, by decide, by decide, rfl⟩
  · intro s hs
    simp [rE] at hs
    exact ⟨1, 3, 0, 20, 0, hs, by decide⟩
  · intro s hs
    simp [rE] at hs
    rcases hs with rfl | rfl
    · exact ⟨0, 1, 4, rfl, by decide⟩
    · exact ⟨1, 0, 4, rfl, by decide⟩
def exB : List UInt8 := [68, 32, 49, 32, 53, 32, 50, 48, 32, 50, 32, 48, 10, 83, 32, 49, 32, 51, 32, 48, 32, 50, 48, 32, 48, 10, 82, 32, 48, 32, 49, 32, 52, 10, 82, 32, 49, 32, 48, 32, 52, 10]
theorem exB_text : textL rE = exB := by decide +kernel
def exT : List UInt8 := [100, 32, 52, 32, 48, 32, 52, 32, 48, 10]
theorem exT_read : readT exT = ([(2, [4, 0, 4, 0])], 0, 0) := by decide +kernel
theorem exB_judge : judgeS rE (siteD rE) [49] = (8, some [4], 0) := by decide +kernel
theorem exB_cell : ∀ i, i < 2 → ∀ j, j < 2 → cellQ (insOf rE (siteD rE)) (fun _ _ => 0) i j ≠ -1 → [(4 : Int), 0, 4, 0].getD i 0 + [(4 : Int), 0, 4, 0].getD (2 + j) 0 ≤ cellQ (insOf rE (siteD rE)) (fun _ _ => 0) i j := by decide +kernel
theorem exB_check : checkS rE [49] exT = (0, 0) := by
  have hc : claimS rE [49] = (some 8, 0) := by
    unfold claimS
    rw [if_neg (by decide), exB_judge]; rfl
  have hd : DualsZ (insOf rE (siteD rE)) (tabP []) 8 [4, 0, 4, 0] := ⟨by decide, by decide, fun i j hi hj h => exB_cell i hi j hj h⟩
  have hs : stepW (insOf rE (siteD rE)) (some 8) [] (2, [4, 0, 4, 0]) = some [] := by
    unfold stepW
    rw [if_neg (by decide), if_pos (show HoldZ (insOf rE (siteD rE)) (some 8) (tabP []) (2, [4, 0, 4, 0]) from Or.inl ⟨rfl, 8, rfl, hd⟩)]; rfl
  have hf : firstW (insOf rE (siteD rE)) (some 8) [] [(2, [4, 0, 4, 0])] 0 = 0 := by
    rw [firstW_cons, hs]; rfl
  unfold checkS
  rw [hc, exT_read, if_neg (by simp), if_neg (by simp), if_pos hf]
end Go.Proofs.Ytebinaopncclgab
namespace Go.Proofs.Ytebinaopncclgab
open Go.RowKit

theorem judge_some {r : Rd} {D : Nat → Nat → Int} {l : List UInt8} (h : (judgeS r D l).2.2 = 0) : ∃ S, judgeS r D l = ((judgeS r D l).1, some S, 0) := by
  unfold judgeS at h ⊢
  split at h
  · rename_i h1; exact absurd h h1
  · rename_i h1
    rw [if_neg h1]
    split at h
    · cases h
    · rename_i h2
      rw [if_neg h2]
      split at h
      · cases h
      · rename_i h3
        rw [if_neg h3]
        split at h
        · cases h
        · rename_i h4
          rw [if_neg h4]
          cases ht : timesS r D (routesS l) (List.replicate r.stops.length 0) with
          | none => rw [ht] at h; cases h
          | some S => exact ⟨S, rfl⟩
theorem ins_fine {r : Rd} (hok : RdOk r) : InsOk (insOf r (siteD r)) := insOk_of hok fun a b ha hb => (site_range hok a b ha hb).1
theorem check_parts {r : Rd} {l t : List UInt8} (h : checkS r l t = (0, 0)) : (claimS r l).2 = 0 ∧ (readT t).2.2 = 0 ∧ ∃ P', walkW (insOf r (siteD r)) (claimS r l).1 [] (readT t).1 = some P' := by
  unfold checkS at h
  split at h
  · rename_i h1; injection h with _ h2; exact absurd h2 h1
  · rename_i h1
    split at h
    · injection h with _ h2; exact absurd h2 (by omega)
    · rename_i h2
      split at h
      · rename_i h3; exact ⟨by omega, by omega, (firstW_walk _ _ _ _ _).1 h3⟩
      · injection h with _ h3; exact absurd h3 (by omega)
theorem check_least {r : Rd} (hok : RdOk r) {l t : List UInt8} (h : checkS r l t = (0, 0)) {R : List (List Nat)} (hp : PlanQ (insOf r (siteD r)) R) : ∃ c, (claimS r l).1 = some c ∧ c ≤ costQ (insOf r (siteD r)) R := by
  obtain ⟨_, h2, P', h3⟩ := check_parts h
  exact check_sound (ins_fine hok) hp h3 (readT_ok h2).1
theorem check_none {r : Rd} (hok : RdOk r) {t : List UInt8} (h : checkS r noneB t = (0, 0)) {R : List (List Nat)} (hp : PlanQ (insOf r (siteD r)) R) : False := by
  obtain ⟨c, h1, _⟩ := check_least hok h hp
  unfold claimS at h1
  rw [if_pos rfl] at h1
  cases h1
theorem check_claim {r : Rd} (hok : RdOk r) {l t : List UInt8} (hl : l ≠ noneB) (h : checkS r l t = (0, 0)) : ∃ c S, judgeS r (siteD r) l = (c, some S, 0) ∧ ∀ R, PlanQ (insOf r (siteD r)) R → c ≤ costQ (insOf r (siteD r)) R := by
  obtain ⟨h1, _, _⟩ := check_parts h
  have hk := fun R hp => check_least hok h (R := R) hp
  unfold claimS at h1 hk
  rw [if_neg hl] at h1 hk
  by_cases hj : (judgeS r (siteD r) l).2.2 ≠ 0
  · rw [if_pos hj] at h1; exact absurd h1 hj
  · rw [if_neg hj] at hk
    obtain ⟨S, hS⟩ := judge_some (r := r) (D := siteD r) (l := l) (by omega)
    refine ⟨_, S, hS, fun R hp => ?_⟩
    obtain ⟨c, e, hc⟩ := hk R hp
    cases e
    exact hc
theorem check_void (r : Rd) (l : List UInt8) : checkS r l [] ≠ (0, 0) := fun h => by
  have h2 := (check_parts h).2.1
  exact absurd h2 (by decide)
end Go.Proofs.Ytebinaopncclgab
namespace Go.Proofs.Ytebinaopncclgab
open Go.RowKit Go.IntWalk

set_option maxRecDepth 100000 in
set_option maxHeartbeats 2000000 in
theorem dcheck_ok (s l t : ByteArray) (r : Rd) (w : World) (hs : s.size ≤ maxLen) (hl : l.size ≤ maxLen) (ht : t.size ≤ 2000000) (hp : parseS s.data.toList = (r, 0, 0)) (hok : RdOk r) :
    Calls Try.prog 16 #[.string s, .string l, .string t] w fun e w' => e = .returned (.tuple #[.int .i64 (checkS r l.data.toList t.data.toList).1, .int .i64 (checkS r l.data.toList t.data.toList).2]) ∧ Below w.heap.size w w' := by
  have HC := hid (gcheck_ok s l t r w hs hl ht hp hok)
  generalize checkS r l.data.toList t.data.toList = x at *
  clear hp hok
  go_enter Try.func16, Try.ntmps16
  go_wp2_with fail
  refine HC.out.mono ?_
  rintro e1 w1 ⟨rfl, hb1⟩
  have HB := hid hb1
  clear hb1 HC
  go_wp2
  go_ret2
  exact ⟨rfl, HB.out⟩

open Classical in
set_option maxRecDepth 100000 in
set_option maxHeartbeats 2000000 in
theorem shows_ok (s l t : ByteArray) (r : Rd) (w : World) (hs : s.size ≤ maxLen) (hl : l.size ≤ maxLen) (ht : t.size ≤ 2000000) (hp : parseS s.data.toList = (r, 0, 0)) (hok : RdOk r) :
    Calls Try.prog 8 #[.string s, .string l, .string t] w fun e w' => e = .returned (.bool (decide (checkS r l.data.toList t.data.toList = (0, 0)))) ∧ Below w.heap.size w w' := by
  have HC := hid (dcheck_ok s l t r w hs hl ht hp hok)
  generalize checkS r l.data.toList t.data.toList = x at *
  obtain ⟨x1, x2⟩ := x
  clear hp hok
  by_cases h2 : x2 = 0
  · subst h2
    by_cases h1 : x1 = 0
    · subst h1
      have HD : Hid (decide (((0 : Nat), (0 : Int)) = (0, 0)) = true) := by show _ = _; simp
      go_enter Try.func8, Try.ntmps8
      go_wp2_with fail
      refine HC.out.mono ?_
      rintro e1 w1 ⟨rfl, hb1⟩
      have HB := hid hb1
      clear hb1 HC
      go_wp2
      go_ret
      exact ⟨ret_bool (by rw [HD.out]), HB.out⟩
    · have b1 : ((x1 : Int) == 0) = false := by simpa using h1
      have HD : Hid (decide ((x1, (0 : Int)) = (0, 0)) = false) := by show _ = _; simpa using h1
      go_enter Try.func8, Try.ntmps8
      go_wp2_with fail
      refine HC.out.mono ?_
      rintro e1 w1 ⟨rfl, hb1⟩
      have HB := hid hb1
      clear hb1 HC
      go_wp2
      go_ret
      exact ⟨ret_bool (by rw [HD.out]), HB.out⟩
  · have b1 : (x2 == 0) = false := by simpa using h2
    have HD : Hid (decide ((x1, x2) = ((0 : Nat), (0 : Int))) = false) := by show _ = _; simp [h2]
    go_enter Try.func8, Try.ntmps8
    go_wp2_with fail
    refine HC.out.mono ?_
    rintro e1 w1 ⟨rfl, hb1⟩
    have HB := hid hb1
    clear hb1 HC
    go_wp2
    go_ret
    exact ⟨ret_bool (by rw [HD.out]), HB.out⟩
end Go.Proofs.Ytebinaopncclgab
