/- Walks: an instance that may be has no fault; what its lists are. -/
import Derived.Test.YtebinaopncclgaaGreatDoorSameI
import Derived.Deep.RegionHeld3
import Derived.Test.YtebinaopncclgaaGreatDoorPlainF
import Derived.Test.YtebinaopncclgaaGreatDoorPlay
namespace Go.Proofs.YtebinaopncclgaaGreatDoor
open Go.RowKit Go.IntWalk

def sOk (S : Nat → Nat → Int) (N : Int) (i : Nat) : Bool := stopOk (S i 0) (S i 1) (S i 2) (S i 3) (S i 4) N
def rOk (T : Nat → Nat → Int) (N : Int) (i : Nat) : Bool := roadOk (T i 0) (T i 1) (T i 2) N
def allN (p : Nat → Bool) (n : Nat) : Bool := (List.range n).all p
theorem allN_succ (p : Nat → Bool) (n : Nat) : allN p (n + 1) = (allN p n && p n) := by simp [allN, List.range_succ]
theorem allN_no {p : Nat → Bool} {n k : Nat} (hk : k < n) (h : p k = false) : allN p n = false := by
  unfold allN; rw [List.all_eq_false]; exact ⟨k, by simpa using hk, by simp [h]⟩
def faultS (X0 X1 X2 X3 X4 : Int) (S T : Nat → Nat → Int) (n m : Nat) : Int :=
  if 7 < n ∨ 40 < m then 3 else if (headOk X0 X1 X2 X3 X4 && allN (sOk S X3) n && allN (rOk T X3) m) = true then 0 else 4
theorem fault_many {X0 X1 X2 X3 X4 : Int} {S T : Nat → Nat → Int} {n m : Nat} (h : 7 < n ∨ 40 < m) : faultS X0 X1 X2 X3 X4 S T n m = 3 := if_pos h
theorem fault_head {X0 X1 X2 X3 X4 : Int} {S T : Nat → Nat → Int} {n m : Nat} (h : ¬ (7 < n ∨ 40 < m)) (hh : headOk X0 X1 X2 X3 X4 = false) : faultS X0 X1 X2 X3 X4 S T n m = 4 := by
  unfold faultS; rw [if_neg h, if_neg (by simp [hh])]
theorem fault_stop {X0 X1 X2 X3 X4 : Int} {S T : Nat → Nat → Int} {n m : Nat} (h : ¬ (7 < n ∨ 40 < m)) (hh : allN (sOk S X3) n = false) : faultS X0 X1 X2 X3 X4 S T n m = 4 := by
  unfold faultS; rw [if_neg h, if_neg (by simp [hh])]
theorem fault_road {X0 X1 X2 X3 X4 : Int} {S T : Nat → Nat → Int} {n m : Nat} (h : ¬ (7 < n ∨ 40 < m)) (hh : allN (rOk T X3) m = false) : faultS X0 X1 X2 X3 X4 S T n m = 4 := by
  unfold faultS; rw [if_neg h, if_neg (by simp [hh])]
theorem fault_none {X0 X1 X2 X3 X4 : Int} {S T : Nat → Nat → Int} {n m : Nat} (h : ¬ (7 < n ∨ 40 < m)) (h1 : headOk X0 X1 X2 X3 X4 = true) (h2 : allN (sOk S X3) n = true) (h3 : allN (rOk T X3) m = true) : faultS X0 X1 X2 X3 X4 S T n m = 0 := by
  unfold faultS; rw [if_neg h, if_pos (by simp [h1, h2, h3])]

set_option maxRecDepth 100000 in
set_option maxHeartbeats 2000000 in
theorem fault_any (X0 X1 X2 X3 X4 : Int) (S T : Nat → Nat → Int) (aos aor : Option Addr) (n m caps capr : Nat) (w : World) (hn : n ≤ 9223372036854775807) (hm : m ≤ 9223372036854775807) (hs : Lies w aos n 5 S) (hr : Lies w aor m 3 T) :
    Calls Tryz.prog 111 #[.agg #[.int .i64 X0, .int .i64 X1, .int .i64 X2, .int .i64 X3, .int .i64 X4, .slice aos n caps, .slice aor m capr]] w fun e w' => e = .returned (.int .i64 (faultS X0 X1 X2 X3 X4 S T n m)) ∧ Below w.heap.size w w' := by
  have HS := hid hs
  have HR := hid hr
  clear hs hr
  by_cases h7 : 7 < n
  · rw [fault_many (Or.inl h7)]
    go_enter Tryz.func111, Tryz.ntmps111
    go_wp2
    go_ret
    exact ⟨rfl, below1 _ _⟩
  · by_cases h40 : 40 < m
    · rw [fault_many (Or.inr h40)]
      go_enter Tryz.func111, Tryz.ntmps111
      go_wp2
      go_ret
      exact ⟨rfl, below1 _ _⟩
    · have HN : Hid (¬ (7 < n ∨ 40 < m)) := by show ¬ _; omega
      cases hhd : headOk X0 X1 X2 X3 X4
      · rw [fault_head HN.out hhd]
        go_enter Tryz.func111, Tryz.ntmps111
        go_wp2_with fail
        refine (headFits_any _ _ _ _ _ _ _ _).mono ?_
        rintro e1 w1 ⟨rfl, hb1⟩
        rw [hhd]
        obtain ⟨hw1, hz1, hbox⟩ := box_facts (w := w) hb1 rfl rfl rfl rfl
        clear hb1 hbox
        go_wp2
        go_ret
        exact ⟨rfl, hw1⟩
      · have HHD := hid hhd
        go_enter Tryz.func111, Tryz.ntmps111
        go_wp2_with fail
        refine (headFits_any _ _ _ _ _ _ _ _).mono ?_
        rintro e1 w1 ⟨rfl, hb1⟩
        rw [hhd]
        obtain ⟨hw1, hz1, hbox⟩ := box_facts (w := w) hb1 rfl rfl rfl rfl
        have HW1 := hide hw1
        have HBX : Hid (w1.cell? ⟨w.heap.size, 3, none⟩ = some (.int .i64 X3) ∧ w1.cell? ⟨w.heap.size, 5, none⟩ = some (.slice aos n caps) ∧ w1.cell? ⟨w.heap.size, 6, none⟩ = some (.slice aor m capr)) := ⟨hbox 3, hbox 5, hbox 6⟩
        clear hw1 hb1 hbox hhd
        go_wp2_with fail
        go_loopw [3] (fun i wr => ∃ k : Nat, i = .int .i64 k ∧ k ≤ n ∧ Hid (Below w1.heap.size w1 wr) ∧ Hid (allN (sOk S X3) k = true)) (fun i _ => n - (intOf i).toNat)
        case atStart => exact ⟨0, rfl, by omega, Below.refl _ _, rfl⟩
        case round =>
          obtain ⟨k, rfl, hk, HB, HA⟩ := hrel
          have hbs := HB.out.size
          have d3 : wr.cell? ⟨w.heap.size, 3, none⟩ = some (.int .i64 X3) := (HB.out.cell (by exact hz1)).trans HBX.out.1
          have d5 : wr.cell? ⟨w.heap.size, 5, none⟩ = some (.slice aos n caps) := (HB.out.cell (by exact hz1)).trans HBX.out.2.1
          by_cases hlt : k < n
          · obtain ⟨g, o, rfl, hgl, hc⟩ := HS.out (by omega)
            have hcl : ∀ j, j < 5 → wr.cell? ⟨g, o + k * 5 + j, none⟩ = some (.int .i64 (S k j)) := fun j hj => by
              rw [HB.out.cell (p := ⟨g, o + k * 5 + j, none⟩) (by show g < _; omega), HW1.out.cell (by exact hgl)]; exact hc k j hlt hj
            have x0 : wr.cell? ⟨g, o + k * 5, none⟩ = some (.int .i64 (S k 0)) := hcl 0 (by omega)
            have x1 : wr.cell? ⟨g, o + k * 5 + 1, none⟩ = some (.int .i64 (S k 1)) := hcl 1 (by omega)
            have x2 : wr.cell? ⟨g, o + k * 5 + 2, none⟩ = some (.int .i64 (S k 2)) := hcl 2 (by omega)
            have x3 : wr.cell? ⟨g, o + k * 5 + 3, none⟩ = some (.int .i64 (S k 3)) := hcl 3 (by omega)
            have x4 : wr.cell? ⟨g, o + k * 5 + 4, none⟩ = some (.int .i64 (S k 4)) := hcl 4 (by omega)
            clear hcl hc
            have HK : Hid (sOk S X3 k = stopOk (S k 0) (S k 1) (S k 2) (S k 3) (S k 4) X3) := rfl
            generalize S k 0 = a at *
            generalize S k 1 = b at *
            generalize S k 2 = c at *
            generalize S k 3 = d at *
            generalize S k 4 = e at *
            have ik : (0 : Int) ≤ (k : Int) := by omega
            have jk : (k : Int) < (n : Int) := by omega
            have hgw : g < wr.heap.size := by omega
            have hxw : w.heap.size < wr.heap.size := by omega
            go_wp2_with fail
            go_region_held3 (fun w' => w'.cell? ⟨w.heap.size, 3, none⟩ = some (.int .i64 X3) ∧ w'.cell? ⟨w.heap.size, 5, none⟩ = some (.slice (some ⟨g, o, none⟩) n caps) ∧ w'.cell? ⟨g, o + k * 5, none⟩ = some (.int .i64 a) ∧ w'.cell? ⟨g, o + k * 5 + 1, none⟩ = some (.int .i64 b) ∧ w'.cell? ⟨g, o + k * 5 + 2, none⟩ = some (.int .i64 c) ∧ w'.cell? ⟨g, o + k * 5 + 3, none⟩ = some (.int .i64 d) ∧ w'.cell? ⟨g, o + k * 5 + 4, none⟩ = some (.int .i64 e)) (go_keep)
              (first
                | (go_at_call 167; refine (stopFits_any _ _ _ _ _ _ _).mono ?_; rintro e2 w2 ⟨rfl, hb2⟩; have hw2 : Below wr.heap.size wr w2 := ⟨hb2.os, hb2.tape, hb2.output, hb2.size, hb2.block⟩; have k3 := (hw2.cell (p := ⟨w.heap.size, 3, none⟩) (by exact hxw)).trans d3; have k5 := (hw2.cell (p := ⟨w.heap.size, 5, none⟩) (by exact hxw)).trans d5; have m0 := (hw2.cell (p := ⟨g, o + k * 5, none⟩) (by exact hgw)).trans x0; have m1 := (hw2.cell (p := ⟨g, o + k * 5 + 1, none⟩) (by exact hgw)).trans x1; have m2 := (hw2.cell (p := ⟨g, o + k * 5 + 2, none⟩) (by exact hgw)).trans x2; have m3 := (hw2.cell (p := ⟨g, o + k * 5 + 3, none⟩) (by exact hgw)).trans x3; have m4 := (hw2.cell (p := ⟨g, o + k * 5 + 4, none⟩) (by exact hgw)).trans x4; have HW2 := hide hw2; clear hw2 hb2))
            clear x0 x1 x2 x3 x4 k3 k5 m0 m1 m2 m3 m4 d3 d5
            cases hok : stopOk a b c d e X3
            · have HF : Hid (faultS X0 X1 X2 X3 X4 S T n m = 4) := fault_stop HN.out (allN_no hlt (by rw [HK.out, hok]))
              go_wp2
              go_ret
              exact ⟨ret_int HF.out.symm, HW1.out.trans ((HB.out.trans (HW2.out.mono hbs)).mono (by omega))⟩
            · go_wp2
              go_roundw
              case rel => exact ⟨k + 1, by go_num, by omega, HB.out.trans (HW2.out.mono hbs), by show _ = true; rw [allN_succ, HA.out, HK.out, hok]; rfl⟩
              case measure => simp [intOf]; omega
          · have hkn : k = n := by omega
            subst hkn
            go_wp2_with fail
            go_loopw [4] (fun i wx => ∃ p : Nat, i = .int .i64 p ∧ p ≤ m ∧ Hid (Below w1.heap.size w1 wx) ∧ Hid (allN (rOk T X3) p = true)) (fun i _ => m - (intOf i).toNat)
            case atStart => exact ⟨0, rfl, by omega, HB, rfl⟩
            case round =>
              clear HB hbs d3 d5
              obtain ⟨p, rfl, hp, HB, HC⟩ := hrel
              have hbs := HB.out.size
              have d3 : wr.cell? ⟨w.heap.size, 3, none⟩ = some (.int .i64 X3) := (HB.out.cell (by exact hz1)).trans HBX.out.1
              have d6 : wr.cell? ⟨w.heap.size, 6, none⟩ = some (.slice aor m capr) := (HB.out.cell (by exact hz1)).trans HBX.out.2.2
              by_cases hlp : p < m
              · obtain ⟨g, o, rfl, hgl, hc⟩ := HR.out (by omega)
                have hcl : ∀ j, j < 3 → wr.cell? ⟨g, o + p * 3 + j, none⟩ = some (.int .i64 (T p j)) := fun j hj => by
                  rw [HB.out.cell (p := ⟨g, o + p * 3 + j, none⟩) (by show g < _; omega), HW1.out.cell (by exact hgl)]; exact hc p j hlp hj
                have x0 : wr.cell? ⟨g, o + p * 3, none⟩ = some (.int .i64 (T p 0)) := hcl 0 (by omega)
                have x1 : wr.cell? ⟨g, o + p * 3 + 1, none⟩ = some (.int .i64 (T p 1)) := hcl 1 (by omega)
                have x2 : wr.cell? ⟨g, o + p * 3 + 2, none⟩ = some (.int .i64 (T p 2)) := hcl 2 (by omega)
                clear hcl hc
                have HK : Hid (rOk T X3 p = roadOk (T p 0) (T p 1) (T p 2) X3) := rfl
                generalize T p 0 = a at *
                generalize T p 1 = b at *
                generalize T p 2 = c at *
                have ik : (0 : Int) ≤ (p : Int) := by omega
                have jk : (p : Int) < (m : Int) := by omega
                have hgw : g < wr.heap.size := by omega
                have hxw : w.heap.size < wr.heap.size := by omega
                go_wp2_with fail
                go_region_held3 (fun w' => w'.cell? ⟨w.heap.size, 3, none⟩ = some (.int .i64 X3) ∧ w'.cell? ⟨w.heap.size, 6, none⟩ = some (.slice (some ⟨g, o, none⟩) m capr) ∧ w'.cell? ⟨g, o + p * 3, none⟩ = some (.int .i64 a) ∧ w'.cell? ⟨g, o + p * 3 + 1, none⟩ = some (.int .i64 b) ∧ w'.cell? ⟨g, o + p * 3 + 2, none⟩ = some (.int .i64 c)) (go_keep)
                  (first
                    | (go_at_call 168; refine (roadFits_any _ _ _ _ _).mono ?_; rintro e2 w2 ⟨rfl, hb2⟩; have hw2 : Below wr.heap.size wr w2 := ⟨hb2.os, hb2.tape, hb2.output, hb2.size, hb2.block⟩; have k3 := (hw2.cell (p := ⟨w.heap.size, 3, none⟩) (by exact hxw)).trans d3; have k6 := (hw2.cell (p := ⟨w.heap.size, 6, none⟩) (by exact hxw)).trans d6; have m0 := (hw2.cell (p := ⟨g, o + p * 3, none⟩) (by exact hgw)).trans x0; have m1 := (hw2.cell (p := ⟨g, o + p * 3 + 1, none⟩) (by exact hgw)).trans x1; have m2 := (hw2.cell (p := ⟨g, o + p * 3 + 2, none⟩) (by exact hgw)).trans x2; have HW2 := hide hw2; clear hw2 hb2))
                clear x0 x1 x2 k3 k6 m0 m1 m2 d3 d6
                cases hok : roadOk a b c X3
                · have HF : Hid (faultS X0 X1 X2 X3 X4 S T k m = 4) := fault_road HN.out (allN_no hlp (by rw [HK.out, hok]))
                  go_wp2
                  go_ret
                  exact ⟨ret_int HF.out.symm, HW1.out.trans ((HB.out.trans (HW2.out.mono hbs)).mono (by omega))⟩
                · go_wp2
                  go_roundw
                  case rel => exact ⟨p + 1, by go_num, by omega, HB.out.trans (HW2.out.mono hbs), by show _ = true; rw [allN_succ, HC.out, HK.out, hok]; rfl⟩
                  case measure => simp [intOf]; omega
              · have hpm : p = m := by omega
                subst hpm
                have HF : Hid (faultS X0 X1 X2 X3 X4 S T k p = 0) := fault_none HN.out HHD.out HA.out HC.out
                go_wp2
                go_ret
                exact ⟨ret_int HF.out.symm, HW1.out.trans (HB.out.mono (by omega))⟩
end Go.Proofs.YtebinaopncclgaaGreatDoor
namespace Go.Proofs.YtebinaopncclgaaGreatDoor
open Go.RowKit

def bstop (N : Int) (S : Nat → Int) : List Int := [bentS (S 0) 0 (N - 1), bentS (S 1) 0 10000, bentS (S 2) 0 10000, bentS (S 3) (bentS (S 2) 0 10000) 10000, bentS (S 4) 0 10000]
def broad (N : Int) (S : Nat → Int) : List Int := [bentS (S 0) 0 (N - 1), bentS (S 1) 0 (N - 1), bentS (S 2) 0 10000]
def bstops (N : Int) (S : Nat → Nat → Int) (n : Nat) : List (List Int) := (List.range n).map fun i => bstop N (S i)
def broads (N : Int) (S : Nat → Nat → Int) (n : Nat) : List (List Int) := (List.range n).map fun i => broad N (S i)
/- X: the five numbers; n, m: how many stops and roads -/
def bentR (X : Nat → Int) (S T : Nat → Nat → Int) (n m : Nat) : Rd :=
  { vans := bentS (X 0) 1 3, load := bentS (X 1) 0 10000, close := bentS (X 2) 0 10000, nodes := bentS (X 3) 1 12, home := bentS (X 4) 0 (bentS (X 3) 1 12 - 1),
    stops := bstops (bentS (X 3) 1 12) S (min n 7), roads := broads (bentS (X 3) 1 12) T (min m 40), head := true }
theorem bstops_length (N : Int) (S : Nat → Nat → Int) (n : Nat) : (bstops N S n).length = n := by simp [bstops]
theorem broads_length (N : Int) (S : Nat → Nat → Int) (n : Nat) : (broads N S n).length = n := by simp [broads]
theorem bstops_succ (N : Int) (S : Nat → Nat → Int) (n : Nat) : bstops N S (n + 1) = bstops N S n ++ [bstop N (S n)] := by simp [bstops, List.range_succ]
theorem broads_succ (N : Int) (S : Nat → Nat → Int) (n : Nat) : broads N S (n + 1) = broads N S n ++ [broad N (S n)] := by simp [broads, List.range_succ]
theorem ints_flat_snoc (ss : List (List Int)) (s : List Int) : ints (ss ++ [s]).flatten = ints ss.flatten ++ ints s := by simp [ints]

/- an instance that may be -/
structure RdOk (r : Rd) : Prop where
  head : headOk r.vans r.load r.close r.nodes r.home = true
  stops : ∀ s ∈ r.stops, ∃ a b c d e, s = [a, b, c, d, e] ∧ stopOk a b c d e r.nodes = true
  roads : ∀ s ∈ r.roads, ∃ a b c, s = [a, b, c] ∧ roadOk a b c r.nodes = true
  nstops : r.stops.length ≤ 7
  nroads : r.roads.length ≤ 40
  isHead : r.head = true
theorem fit_of {z : Int} (h1 : 0 ≤ z) (h2 : z ≤ 10000) : fit z = true := (fit_iff z).2 ⟨h1, h2⟩
theorem bentR_ok (X : Nat → Int) (S T : Nat → Nat → Int) (n m : Nat) : RdOk (bentR X S T n m) := by
  have h0 := bentS_range (X 0) 1 3 (by omega)
  have h1 := bentS_range (X 1) 0 10000 (by omega)
  have h2 := bentS_range (X 2) 0 10000 (by omega)
  have h3 := bentS_range (X 3) 1 12 (by omega)
  have h4 := bentS_range (X 4) 0 (bentS (X 3) 1 12 - 1) (by omega)
  refine ⟨?_, ?_, ?_, ?_, ?_, rfl⟩
  · show headOk (bentS (X 0) 1 3) (bentS (X 1) 0 10000) (bentS (X 2) 0 10000) (bentS (X 3) 1 12) (bentS (X 4) 0 (bentS (X 3) 1 12 - 1)) = true
    rw [headOk_yes (by omega), fit_of h1.1 h1.2, fit_of h2.1 h2.2]; rfl
  · intro s hs
    simp only [bentR, bstops, List.mem_map, List.mem_range] at hs
    obtain ⟨i, _, rfl⟩ := hs
    have a := bentS_range (S i 0) 0 (bentS (X 3) 1 12 - 1) (by omega)
    have b := bentS_range (S i 1) 0 10000 (by omega)
    have c := bentS_range (S i 2) 0 10000 (by omega)
    have d := bentS_range (S i 3) (bentS (S i 2) 0 10000) 10000 (by omega)
    have e := bentS_range (S i 4) 0 10000 (by omega)
    refine ⟨_, _, _, _, _, rfl, ?_⟩
    show stopOk _ _ _ _ _ (bentS (X 3) 1 12) = true
    rw [stopOk_yes (by omega), fit_of b.1 b.2, fit_of c.1 c.2, fit_of (by omega) d.2, fit_of e.1 e.2]; rfl
  · intro s hs
    simp only [bentR, broads, List.mem_map, List.mem_range] at hs
    obtain ⟨i, _, rfl⟩ := hs
    have a := bentS_range (T i 0) 0 (bentS (X 3) 1 12 - 1) (by omega)
    have b := bentS_range (T i 1) 0 (bentS (X 3) 1 12 - 1) (by omega)
    have c := bentS_range (T i 2) 0 10000 (by omega)
    refine ⟨_, _, _, rfl, ?_⟩
    show roadOk _ _ _ (bentS (X 3) 1 12) = true
    rw [roadOk_yes (by omega), fit_of c.1 c.2]
  · show (bstops _ _ _).length ≤ 7; rw [bstops_length]; omega
  · show (broads _ _ _).length ≤ 40; rw [broads_length]; omega
theorem headOk_iff {v l c n h : Int} : headOk v l c n h = true ↔ (1 ≤ v ∧ v ≤ 3 ∧ 1 ≤ n ∧ n ≤ 12 ∧ 0 ≤ h ∧ h < n) ∧ (0 ≤ l ∧ l ≤ 10000) ∧ 0 ≤ c ∧ c ≤ 10000 := by
  simp only [headOk, Bool.and_eq_true, decide_eq_true_eq, fit_iff]
theorem stopOk_iff {a b c d e n : Int} : stopOk a b c d e n = true ↔ (0 ≤ a ∧ a < n ∧ c ≤ d) ∧ (0 ≤ b ∧ b ≤ 10000) ∧ (0 ≤ c ∧ c ≤ 10000) ∧ (0 ≤ d ∧ d ≤ 10000) ∧ 0 ≤ e ∧ e ≤ 10000 := by
  simp only [stopOk, Bool.and_eq_true, decide_eq_true_eq, fit_iff]
theorem roadOk_iff {a b c n : Int} : roadOk a b c n = true ↔ (0 ≤ a ∧ a < n ∧ 0 ≤ b ∧ b < n) ∧ 0 ≤ c ∧ c ≤ 10000 := by
  simp only [roadOk, Bool.and_eq_true, decide_eq_true_eq, fit_iff]
theorem RdOk.nice {r : Rd} (h : RdOk r) : RdNice r := by
  have hh := headOk_iff.1 h.head
  refine ⟨?_, ?_, ?_, h.nstops, h.nroads⟩
  · intro z hz; simp only [List.mem_cons, List.not_mem_nil, or_false] at hz; unfold small; omega
  · intro s hs
    obtain ⟨a, b, c, d, e, rfl, hk⟩ := h.stops s hs
    have hk := stopOk_iff.1 hk
    refine ⟨rfl, fun z hz => ?_⟩
    simp only [List.mem_cons, List.not_mem_nil, or_false] at hz; unfold small; omega
  · intro s hs
    obtain ⟨a, b, c, rfl, hk⟩ := h.roads s hs
    have hk := roadOk_iff.1 hk
    refine ⟨rfl, fun z hz => ?_⟩
    simp only [List.mem_cons, List.not_mem_nil, or_false] at hz; unfold small; omega
end Go.Proofs.YtebinaopncclgaaGreatDoor
namespace Go.Proofs.YtebinaopncclgaaGreatDoor
open Go.RowKit Go.IntWalk

theorem some_of {w : World} {B n : Nat} {ao : Option Addr} (h : ∀ a, ao = some a → ∃ g, a = ⟨g, 0, none⟩ ∧ B ≤ g ∧ g < w.heap.size) (h0 : ao = none → n = 0) (hn : 0 < n) : ∃ g, ao = some ⟨g, 0, none⟩ ∧ g < w.heap.size := by
  cases ao with
  | none => have := h0 rfl; omega
  | some a => obtain ⟨g, rfl, _, hg⟩ := h a rfl; exact ⟨g, rfl, hg⟩
theorem cellF_at {ss : List (List Int)} {i : Nat} {s : List Int} (hi : i < ss.length) (h : ss[i] = s) (j : Nat) : cellF ss i j = s.getD j 0 := by
  unfold cellF; rw [show ss.getD i [] = ss[i] by simp [hi], h]
theorem ok_fault {r : Rd} (h : RdOk r) : faultS r.vans r.load r.close r.nodes r.home (cellF r.stops) (cellF r.roads) r.stops.length r.roads.length = 0 := by
  have h1 := h.nstops
  have h2 := h.nroads
  refine fault_none (by omega) h.head ?_ ?_
  · unfold allN
    rw [List.all_eq_true]
    intro i hi
    have hi' : i < r.stops.length := by simpa using hi
    obtain ⟨a, b, c, d, e, hs, hk⟩ := h.stops _ (List.getElem_mem hi')
    unfold sOk
    rw [cellF_at hi' hs, cellF_at hi' hs, cellF_at hi' hs, cellF_at hi' hs, cellF_at hi' hs]; exact hk
  · unfold allN
    rw [List.all_eq_true]
    intro i hi
    have hi' : i < r.roads.length := by simpa using hi
    obtain ⟨a, b, c, hs, hk⟩ := h.roads _ (List.getElem_mem hi')
    unfold rOk
    rw [cellF_at hi' hs, cellF_at hi' hs, cellF_at hi' hs]; exact hk
theorem RdOk.shape {r : Rd} (h : RdOk r) : RdShape r := ⟨fun s hs => (h.nice.stops s hs).1, fun s hs => (h.nice.roads s hs).1⟩
theorem fault_ok (B B' : Nat) (r : Rd) (vs vr : Value) (w : World) (hn : RdOk r) (hs : w.ownsRow B 50 5 vs r.stops.length (ints r.stops.flatten)) (hr : w.ownsRow B' 52 3 vr r.roads.length (ints r.roads.flatten)) :
    Calls Tryz.prog 111 #[inst r vs vr] w fun e w' => e = .returned (.int .i64 0) ∧ Below w.heap.size w w' := by
  obtain ⟨aos, caps, rfl, hl⟩ := lies_own hs hn.shape.stops
  obtain ⟨aor, capr, rfl, hl'⟩ := lies_own hr hn.shape.roads
  have h := fault_any r.vans r.load r.close r.nodes r.home (cellF r.stops) (cellF r.roads) aos aor r.stops.length r.roads.length caps capr w (by have := hn.nstops; omega) (by have := hn.nroads; omega) hl hl'
  rw [ok_fault hn] at h
  exact h

/- what Parse takes may be -/
structure RdMay (r : Rd) : Prop where
  none : r.head = false → r = Rd0
  ok : r.head = true → RdOk r
theorem may0 : RdMay Rd0 := ⟨fun _ => rfl, fun h => by cases h⟩
theorem rdVals_may {r : Rd} (h : RdMay r) (f : List UInt8) (vs : List Int) : RdMay (rdVals r f vs).1 := by
  have hd : ∀ a b c d e, RdMay (rdDepot r a b c d e).1 := by
    intro a b c d e; unfold rdDepot; split
    · exact h
    · split
      · rename_i hh; exact ⟨fun h' => (by cases h'), fun _ => ⟨hh, by simp, by simp, by simp, by simp, rfl⟩⟩
      · exact h
  have hst : ∀ a b c d e, RdMay (rdStop r a b c d e).1 := by
    intro a b c d e; unfold rdStop; split
    · exact h
    · split
      · exact h
      · split
        · rename_i h1 h2 h3
          have hh : r.head = true := by simpa using h1
          have ho := h.ok hh
          refine ⟨fun h' => absurd h' h1, fun _ => ⟨ho.head, fun s hs => ?_, ho.roads, by simp; omega, ho.nroads, hh⟩⟩
          simp at hs
          rcases hs with hs | rfl
          · exact ho.stops s hs
          · exact ⟨a, b, c, d, e, rfl, h3⟩
        · exact h
  have hrd : ∀ a b c, RdMay (rdRoad r a b c).1 := by
    intro a b c; unfold rdRoad; split
    · exact h
    · split
      · exact h
      · split
        · rename_i h1 h2 h3
          have hh : r.head = true := by simpa using h1
          have ho := h.ok hh
          refine ⟨fun h' => absurd h' h1, fun _ => ⟨ho.head, ho.stops, fun s hs => ?_, ho.nstops, by simp; omega, hh⟩⟩
          simp at hs
          rcases hs with hs | rfl
          · exact ho.roads s hs
          · exact ⟨a, b, c, rfl, h3⟩
        · exact h
  unfold rdVals
  split
  · split
    · exact hd _ _ _ _ _
    · exact h
  · split
    · split
      · exact hst _ _ _ _ _
      · exact h
    · split
      · split
        · exact hrd _ _ _
        · exact h
      · exact h
theorem rdGo_may (ls : List (List UInt8)) : ∀ {r : Rd}, RdMay r → ∀ i, RdMay (rdGo r i ls).1 := by
  induction ls with
  | nil => intro r h i; exact h
  | cons l t ih =>
    intro r h i
    unfold rdGo
    split
    · refine ih ?_ _
      unfold rdLine
      split
      · exact h
      · split
        · exact rdVals_may h _ _
        · exact h
    · exact may0
/- where Parse tells no error, what it takes is an instance -/
theorem parse_rdok {l : List UInt8} (h : (parseS l).2.2 = 0) : RdOk (parseS l).1 := by
  have hm := rdGo_may (splitB 10 l) may0 0
  unfold parseS at h ⊢
  split at h
  · cases h
  · rename_i h1
    rw [if_neg h1]
    split at h
    · rename_i h2
      rw [if_pos h2]
      split at h
      · rename_i h3
        rw [if_pos h3]; exact hm.ok h3
      · cases h
    · rename_i h2
      exact absurd h h2
end Go.Proofs.YtebinaopncclgaaGreatDoor
