/- Walks: the ways between the sites of an instance that may be. -/
import Derived.Test.YtebinaopncclgabGreatDoorRefC
import Derived.Test.YtebinaopncclgabGreatDoorParse
import Derived.Deep.RegionHeld3
import Derived.Test.YtebinaopncclgabGreatDoorPlainF
import Derived.Test.YtebinaopncclgabGreatDoorPlainG
import Derived.Test.YtebinaopncclgabGreatDoorBase
import Derived.Test.YtebinaopncclgabGreatDoorFrame
namespace Go.Proofs.YtebinaopncclgabGreatDoor
open Go.RowKit Go.IntWalk

/- the words of a line, in memory -/
structure Words (w : World) (g : Nat) (f : List UInt8) (fs : List (List UInt8)) : Prop where
  lt : g < w.heap.size
  head : w.cell? ⟨g, 0, none⟩ = some (.string ⟨f.toArray⟩)
  rest : ∀ i (hi : i < fs.length), w.cell? ⟨g, i + 1, none⟩ = some (.string ⟨(fs[i]).toArray⟩)
theorem Words.below {w w' : World} {g : Nat} {f : List UInt8} {fs : List (List UInt8)} (h : Words w g f fs) (hb : Below w.heap.size w w') : Words w' g f fs :=
  ⟨Nat.lt_of_lt_of_le h.lt hb.size, by rw [hb.cell (by exact h.lt)]; exact h.head, fun i hi => by rw [hb.cell (by exact h.lt)]; exact h.rest i hi⟩

theorem seven {w : World} {b : Nat} {x0 x1 x2 x3 x4 x5 x6 : Value} {t : TypeId} (h : w.heap[b]? = some (.cells #[x0, x1, x2, x3, x4, x5, x6] t (0, 0))) :
    w.cell? ⟨b, 0, none⟩ = some x0 ∧ w.cell? ⟨b, 1, none⟩ = some x1 ∧ w.cell? ⟨b, 2, none⟩ = some x2 ∧ w.cell? ⟨b, 3, none⟩ = some x3 ∧ w.cell? ⟨b, 4, none⟩ = some x4 ∧ w.cell? ⟨b, 5, none⟩ = some x5 ∧ w.cell? ⟨b, 6, none⟩ = some x6 ∧ ∀ o, w.frozen? ⟨b, o, none⟩ = false := by
  refine ⟨?_, ?_, ?_, ?_, ?_, ?_, ?_, fun o => frozen_of_row w b o _ _ h⟩ <;> (rw [cell_of_row w b _ _ _ _ h]; rfl)

end Go.Proofs.YtebinaopncclgabGreatDoor
namespace Go.Proofs.YtebinaopncclgabGreatDoor
open Go.RowKit Go.IntWalk

theorem news_b {w X : World} {cs : Array Value} {t : TypeId} {l : List Value} {b : Nat} (hh : X.heap = (w.alloc (.cells cs t)).heap) (hl : l = cs.toList) (hb : w.heap.size = b) : ∀ j u, l[j]? = some u → X.cell? ((⟨b, 0, none⟩ : Addr).add j) = some u := by
  subst hb; exact news_at hl hh
end Go.Proofs.YtebinaopncclgabGreatDoor
namespace Go.Proofs.YtebinaopncclgabGreatDoor
open Go.RowKit Go.IntWalk

def seven7 (r : Rd) (vs vr : Value) : Array Value := #[.int .i64 r.vans, .int .i64 r.load, .int .i64 r.close, .int .i64 r.nodes, .int .i64 r.home, vs, vr]
structure RfIs (w wr : World) (r : Rd) (vs vr : Value) : Prop where
  z : wr.heap[w.heap.size]? = some (.cells zero7 28 (0, 0))
  x : wr.heap[w.heap.size + 1]? = some (.cells (seven7 r vs vr) 28 (0, 0))
  s : wr.ownsRow w.heap.size 62 5 vs r.stops.length (ints r.stops.flatten)
  r : wr.ownsRow w.heap.size 64 3 vr r.roads.length (ints r.roads.flatten)
  b : Below w.heap.size w wr
theorem RfIs.below {w wr w2 : World} {r : Rd} {vs vr : Value} (h : RfIs w wr r vs vr) (hb : Below wr.heap.size wr w2) : RfIs w w2 r vs vr :=
  ⟨by rw [hb.block _ (Array.getElem?_eq_some_iff.1 h.z).1]; exact h.z, by rw [hb.block _ (Array.getElem?_eq_some_iff.1 h.x).1]; exact h.x, own_below h.s hb, own_below h.r hb, h.b.trans (hb.mono h.b.size)⟩
end Go.Proofs.YtebinaopncclgabGreatDoor
namespace Go.Proofs.YtebinaopncclgabGreatDoor
open Go.RowKit Go.IntWalk

/- a list of structs of numbers: its cells, of whatever address -/
def Lies (w : World) (ao : Option Addr) (n size : Nat) (S : Nat → Nat → Int) : Prop :=
  0 < n → ∃ b o, ao = some ⟨b, o, none⟩ ∧ b < w.heap.size ∧ ∀ i j, i < n → j < size → w.cell? ⟨b, o + i * size + j, none⟩ = some (.int .i64 (S i j))
theorem Lies.below {w w' : World} {ao : Option Addr} {n size : Nat} {S : Nat → Nat → Int} (h : Lies w ao n size S) (hb : Below w.heap.size w w') : Lies w' ao n size S := fun hn => by
  obtain ⟨b, o, h1, h2, h3⟩ := h hn
  exact ⟨b, o, h1, Nat.lt_of_lt_of_le h2 hb.size, fun i j hi hj => (hb.cell (by exact h2)).trans (h3 i j hi hj)⟩

end Go.Proofs.YtebinaopncclgabGreatDoor
namespace Go.Proofs.YtebinaopncclgabGreatDoor
open Go.RowKit Go.IntWalk

def sOk (S : Nat → Nat → Int) (N : Int) (i : Nat) : Bool := stopOk (S i 0) (S i 1) (S i 2) (S i 3) (S i 4) N
def rOk (T : Nat → Nat → Int) (N : Int) (i : Nat) : Bool := roadOk (T i 0) (T i 1) (T i 2) N
def allN (p : Nat → Bool) (n : Nat) : Bool := (List.range n).all p
theorem allN_succ (p : Nat → Bool) (n : Nat) : allN p (n + 1) = (allN p n && p n) := by simp [allN, List.range_succ]
theorem allN_no {p : Nat → Bool} {n k : Nat} (hk : k < n) (h : p k = false) : allN p n = false := by
  unfold allN; rw [List.all_eq_false]; exact ⟨k, by simpa using hk, by simp [h]⟩
def faultS (X0 X1 X2 X3 X4 : Int) (S T : Nat → Nat → Int) (n m : Nat) : Int :=
  if 7 < n ∨ 40 < m then 3 else if (headOk X0 X1 X2 X3 X4 && allN (sOk S X3) n && allN (rOk T X3) m) = true then 0 else 4
theorem fault_many {X0 X1 X2 X3 X4 : Int} {S T : Nat → Nat → Int} {n m : Nat} (h : 7 < n ∨ 40 < m) : faultS X0 X1 X2 X3 X4 S T n m = 3 := if_pos h
theorem fault_head {X0 X1 X2 X3 X4 : Int} {S T : Nat → Nat → Int} {n m : Nat} (h : ¬ (7 < n ∨ 40 < m)) (hh : headOk X0 X1 X2 X3 X4 = false) : faultS X0 X1 X2 X3 X4 S T n m = 4 := by
  unfold faultS; rw [if_neg h, if_neg (by simp [hh])]
theorem fault_stop {X0 X1 X2 X3 X4 : Int} {S T : Nat → Nat → Int} {n m : Nat} (h : ¬ (7 < n ∨ 40 < m)) (hh : allN (sOk S X3) n = false) : faultS X0 X1 X2 X3 X4 S T n m = 4 := by
  unfold faultS; rw [if_neg h, if_neg (by simp [hh])]
theorem fault_road {X0 X1 X2 X3 X4 : Int} {S T : Nat → Nat → Int} {n m : Nat} (h : ¬ (7 < n ∨ 40 < m)) (hh : allN (rOk T X3) m = false) : faultS X0 X1 X2 X3 X4 S T n m = 4 := by
  unfold faultS; rw [if_neg h, if_neg (by simp [hh])]
theorem fault_none {X0 X1 X2 X3 X4 : Int} {S T : Nat → Nat → Int} {n m : Nat} (h : ¬ (7 < n ∨ 40 < m)) (h1 : headOk X0 X1 X2 X3 X4 = true) (h2 : allN (sOk S X3) n = true) (h3 : allN (rOk T X3) m = true) : faultS X0 X1 X2 X3 X4 S T n m = 0 := by
  unfold faultS; rw [if_neg h, if_pos (by simp [h1, h2, h3])]

set_option maxRecDepth 100000 in
set_option maxHeartbeats 2000000 in
theorem fault_any (X0 X1 X2 X3 X4 : Int) (S T : Nat → Nat → Int) (aos aor : Option Addr) (n m caps capr : Nat) (w : World) (hn : n ≤ 9223372036854775807) (hm : m ≤ 9223372036854775807) (hs : Lies w aos n 5 S) (hr : Lies w aor m 3 T) :
    Calls Tryz.prog 81 #[.agg #[.int .i64 X0, .int .i64 X1, .int .i64 X2, .int .i64 X3, .int .i64 X4, .slice aos n caps, .slice aor m capr]] w fun e w' => e = .returned (.int .i64 (faultS X0 X1 X2 X3 X4 S T n m)) ∧ Below w.heap.size w w' := by
  have HS := hid hs
  have HR := hid hr
  clear hs hr
  by_cases h7 : 7 < n
  · rw [fault_many (Or.inl h7)]
    go_enter Tryz.func81, Tryz.ntmps81
    go_wp2
    go_ret
    exact ⟨rfl, below1 _ _⟩
  · by_cases h40 : 40 < m
    · rw [fault_many (Or.inr h40)]
      go_enter Tryz.func81, Tryz.ntmps81
      go_wp2
      go_ret
      exact ⟨rfl, below1 _ _⟩
    · have HN : Hid (¬ (7 < n ∨ 40 < m)) := by show ¬ _; omega
      cases hhd : headOk X0 X1 X2 X3 X4
      · rw [fault_head HN.out hhd]
        go_enter Tryz.func81, Tryz.ntmps81
        go_wp2_with fail
        refine (headFits_any _ _ _ _ _ _ _ _).mono ?_
        rintro e1 w1 ⟨rfl, hb1⟩
        rw [hhd]
        obtain ⟨hw1, hz1, hbox⟩ := box_facts (w := w) hb1 rfl rfl rfl rfl
        clear hb1 hbox
        go_wp2
        go_ret
        exact ⟨rfl, hw1⟩
      · have HHD := hid hhd
        go_enter Tryz.func81, Tryz.ntmps81
        go_wp2_with fail
        refine (headFits_any _ _ _ _ _ _ _ _).mono ?_
        rintro e1 w1 ⟨rfl, hb1⟩
        rw [hhd]
        obtain ⟨hw1, hz1, hbox⟩ := box_facts (w := w) hb1 rfl rfl rfl rfl
        have HW1 := hide hw1
        have HBX : Hid (w1.cell? ⟨w.heap.size, 3, none⟩ = some (.int .i64 X3) ∧ w1.cell? ⟨w.heap.size, 5, none⟩ = some (.slice aos n caps) ∧ w1.cell? ⟨w.heap.size, 6, none⟩ = some (.slice aor m capr)) := ⟨hbox 3, hbox 5, hbox 6⟩
        clear hw1 hb1 hbox hhd
        go_wp2_with fail
        go_loopw [3] (fun i wr => ∃ k : Nat, i = .int .i64 k ∧ k ≤ n ∧ Hid (Below w1.heap.size w1 wr) ∧ Hid (allN (sOk S X3) k = true)) (fun i _ => n - (intOf i).toNat)
        case atStart => exact ⟨0, rfl, by omega, Below.refl _ _, rfl⟩
        case round =>
          obtain ⟨k, rfl, hk, HB, HA⟩ := hrel
          have hbs := HB.out.size
          have d3 : wr.cell? ⟨w.heap.size, 3, none⟩ = some (.int .i64 X3) := (HB.out.cell (by exact hz1)).trans HBX.out.1
          have d5 : wr.cell? ⟨w.heap.size, 5, none⟩ = some (.slice aos n caps) := (HB.out.cell (by exact hz1)).trans HBX.out.2.1
          by_cases hlt : k < n
          · obtain ⟨g, o, rfl, hgl, hc⟩ := HS.out (by omega)
            have hcl : ∀ j, j < 5 → wr.cell? ⟨g, o + k * 5 + j, none⟩ = some (.int .i64 (S k j)) := fun j hj => by
              rw [HB.out.cell (p := ⟨g, o + k * 5 + j, none⟩) (by show g < _; omega), HW1.out.cell (by exact hgl)]; exact hc k j hlt hj
            have x0 : wr.cell? ⟨g, o + k * 5, none⟩ = some (.int .i64 (S k 0)) := hcl 0 (by omega)
            have x1 : wr.cell? ⟨g, o + k * 5 + 1, none⟩ = some (.int .i64 (S k 1)) := hcl 1 (by omega)
            have x2 : wr.cell? ⟨g, o + k * 5 + 2, none⟩ = some (.int .i64 (S k 2)) := hcl 2 (by omega)
            have x3 : wr.cell? ⟨g, o + k * 5 + 3, none⟩ = some (.int .i64 (S k 3)) := hcl 3 (by omega)
            have x4 : wr.cell? ⟨g, o + k * 5 + 4, none⟩ = some (.int .i64 (S k 4)) := hcl 4 (by omega)
            clear hcl hc
            have HK : Hid (sOk S X3 k = stopOk (S k 0) (S k 1) (S k 2) (S k 3) (S k 4) X3) := rfl
            generalize S k 0 = a at *
            generalize S k 1 = b at *
            generalize S k 2 = c at *
            generalize S k 3 = d at *
            generalize S k 4 = e at *
            have ik : (0 : Int) ≤ (k : Int) := by omega
            have jk : (k : Int) < (n : Int) := by omega
            have hgw : g < wr.heap.size := by omega
            have hxw : w.heap.size < wr.heap.size := by omega
            go_wp2_with fail
            go_region_held3 (fun w' => w'.cell? ⟨w.heap.size, 3, none⟩ = some (.int .i64 X3) ∧ w'.cell? ⟨w.heap.size, 5, none⟩ = some (.slice (some ⟨g, o, none⟩) n caps) ∧ w'.cell? ⟨g, o + k * 5, none⟩ = some (.int .i64 a) ∧ w'.cell? ⟨g, o + k * 5 + 1, none⟩ = some (.int .i64 b) ∧ w'.cell? ⟨g, o + k * 5 + 2, none⟩ = some (.int .i64 c) ∧ w'.cell? ⟨g, o + k * 5 + 3, none⟩ = some (.int .i64 d) ∧ w'.cell? ⟨g, o + k * 5 + 4, none⟩ = some (.int .i64 e)) (go_keep)
              (first
                | (go_at_call 137; refine (stopFits_any _ _ _ _ _ _ _).mono ?_; rintro e2 w2 ⟨rfl, hb2⟩; have hw2 : Below wr.heap.size wr w2 := ⟨hb2.os, hb2.tape, hb2.output, hb2.size, hb2.block⟩; have k3 := (hw2.cell (p := ⟨w.heap.size, 3, none⟩) (by exact hxw)).trans d3; have k5 := (hw2.cell (p := ⟨w.heap.size, 5, none⟩) (by exact hxw)).trans d5; have m0 := (hw2.cell (p := ⟨g, o + k * 5, none⟩) (by exact hgw)).trans x0; have m1 := (hw2.cell (p := ⟨g, o + k * 5 + 1, none⟩) (by exact hgw)).trans x1; have m2 := (hw2.cell (p := ⟨g, o + k * 5 + 2, none⟩) (by exact hgw)).trans x2; have m3 := (hw2.cell (p := ⟨g, o + k * 5 + 3, none⟩) (by exact hgw)).trans x3; have m4 := (hw2.cell (p := ⟨g, o + k * 5 + 4, none⟩) (by exact hgw)).trans x4; have HW2 := hide hw2; clear hw2 hb2))
            clear x0 x1 x2 x3 x4 k3 k5 m0 m1 m2 m3 m4 d3 d5
            cases hok : stopOk a b c d e X3
            · have HF : Hid (faultS X0 X1 X2 X3 X4 S T n m = 4) := fault_stop HN.out (allN_no hlt (by rw [HK.out, hok]))
              go_wp2
              go_ret
              exact ⟨ret_int HF.out.symm, HW1.out.trans ((HB.out.trans (HW2.out.mono hbs)).mono (by omega))⟩
            · go_wp2
              go_roundw
              case rel => exact ⟨k + 1, by go_num, by omega, HB.out.trans (HW2.out.mono hbs), by show _ = true; rw [allN_succ, HA.out, HK.out, hok]; rfl⟩
              case measure => simp [intOf]; omega
          · have hkn : k = n := by omega
            subst hkn
            go_wp2_with fail
            go_loopw [4] (fun i wx => ∃ p : Nat, i = .int .i64 p ∧ p ≤ m ∧ Hid (Below w1.heap.size w1 wx) ∧ Hid (allN (rOk T X3) p = true)) (fun i _ => m - (intOf i).toNat)
            case atStart => exact ⟨0, rfl, by omega, HB, rfl⟩
            case round =>
              clear HB hbs d3 d5
              obtain ⟨p, rfl, hp, HB, HC⟩ := hrel
              have hbs := HB.out.size
              have d3 : wr.cell? ⟨w.heap.size, 3, none⟩ = some (.int .i64 X3) := (HB.out.cell (by exact hz1)).trans HBX.out.1
              have d6 : wr.cell? ⟨w.heap.size, 6, none⟩ = some (.slice aor m capr) := (HB.out.cell (by exact hz1)).trans HBX.out.2.2
              by_cases hlp : p < m
              · obtain ⟨g, o, rfl, hgl, hc⟩ := HR.out (by omega)
                have hcl : ∀ j, j < 3 → wr.cell? ⟨g, o + p * 3 + j, none⟩ = some (.int .i64 (T p j)) := fun j hj => by
                  rw [HB.out.cell (p := ⟨g, o + p * 3 + j, none⟩) (by show g < _; omega), HW1.out.cell (by exact hgl)]; exact hc p j hlp hj
                have x0 : wr.cell? ⟨g, o + p * 3, none⟩ = some (.int .i64 (T p 0)) := hcl 0 (by omega)
                have x1 : wr.cell? ⟨g, o + p * 3 + 1, none⟩ = some (.int .i64 (T p 1)) := hcl 1 (by omega)
                have x2 : wr.cell? ⟨g, o + p * 3 + 2, none⟩ = some (.int .i64 (T p 2)) := hcl 2 (by omega)
                clear hcl hc
                have HK : Hid (rOk T X3 p = roadOk (T p 0) (T p 1) (T p 2) X3) := rfl
                generalize T p 0 = a at *
                generalize T p 1 = b at *
                generalize T p 2 = c at *
                have ik : (0 : Int) ≤ (p : Int) := by omega
                have jk : (p : Int) < (m : Int) := by omega
                have hgw : g < wr.heap.size := by omega
                have hxw : w.heap.size < wr.heap.size := by omega
                go_wp2_with fail
                go_region_held3 (fun w' => w'.cell? ⟨w.heap.size, 3, none⟩ = some (.int .i64 X3) ∧ w'.cell? ⟨w.heap.size, 6, none⟩ = some (.slice (some ⟨g, o, none⟩) m capr) ∧ w'.cell? ⟨g, o + p * 3, none⟩ = some (.int .i64 a) ∧ w'.cell? ⟨g, o + p * 3 + 1, none⟩ = some (.int .i64 b) ∧ w'.cell? ⟨g, o + p * 3 + 2, none⟩ = some (.int .i64 c)) (go_keep)
                  (first
                    | (go_at_call 138; refine (roadFits_any _ _ _ _ _).mono ?_; rintro e2 w2 ⟨rfl, hb2⟩; have hw2 : Below wr.heap.size wr w2 := ⟨hb2.os, hb2.tape, hb2.output, hb2.size, hb2.block⟩; have k3 := (hw2.cell (p := ⟨w.heap.size, 3, none⟩) (by exact hxw)).trans d3; have k6 := (hw2.cell (p := ⟨w.heap.size, 6, none⟩) (by exact hxw)).trans d6; have m0 := (hw2.cell (p := ⟨g, o + p * 3, none⟩) (by exact hgw)).trans x0; have m1 := (hw2.cell (p := ⟨g, o + p * 3 + 1, none⟩) (by exact hgw)).trans x1; have m2 := (hw2.cell (p := ⟨g, o + p * 3 + 2, none⟩) (by exact hgw)).trans x2; have HW2 := hide hw2; clear hw2 hb2))
                clear x0 x1 x2 k3 k6 m0 m1 m2 d3 d6
                cases hok : roadOk a b c X3
                · have HF : Hid (faultS X0 X1 X2 X3 X4 S T k m = 4) := fault_road HN.out (allN_no hlp (by rw [HK.out, hok]))
                  go_wp2
                  go_ret
                  exact ⟨ret_int HF.out.symm, HW1.out.trans ((HB.out.trans (HW2.out.mono hbs)).mono (by omega))⟩
                · go_wp2
                  go_roundw
                  case rel => exact ⟨p + 1, by go_num, by omega, HB.out.trans (HW2.out.mono hbs), by show _ = true; rw [allN_succ, HC.out, HK.out, hok]; rfl⟩
                  case measure => simp [intOf]; omega
              · have hpm : p = m := by omega
                subst hpm
                have HF : Hid (faultS X0 X1 X2 X3 X4 S T k p = 0) := fault_none HN.out HHD.out HA.out HC.out
                go_wp2
                go_ret
                exact ⟨ret_int HF.out.symm, HW1.out.trans (HB.out.mono (by omega))⟩
end Go.Proofs.YtebinaopncclgabGreatDoor
namespace Go.Proofs.YtebinaopncclgabGreatDoor
open Go.RowKit Go.IntWalk

/- a list whose cells, all of them, are as they were written; its block is below bd -/
def Full (w : World) (bd : Nat) (t : TypeId) (size : Nat) (P : Nat → Value → Prop) (v : Value) : Prop :=
  ∃ ao c, v = .slice ao c c ∧ c ≤ maxLen ∧ (0 < c → ∃ g cur, ao = some ⟨g, 0, none⟩ ∧ g < bd ∧ w.heap[g]? = some (.cells cur t (0, 0)) ∧ ∀ j q, j < c → q < size → ∃ u, cur[j * size + q]? = some u ∧ P q u)
theorem Full.keep {w w' : World} {bd bd' : Nat} {t : TypeId} {size : Nat} {P : Nat → Value → Prop} {v : Value} {T : List TypeId} (h : Full w bd t size P v) (hk : Keep T w w') (ht : t ∉ T) (hb : bd ≤ bd') : Full w' bd' t size P v := by
  obtain ⟨ao, c, h1, h2, h3⟩ := h
  refine ⟨ao, c, h1, h2, fun hc => ?_⟩
  obtain ⟨g, cur, k1, k2, k3, k4⟩ := h3 hc
  exact ⟨g, cur, k1, by omega, hk g cur t _ k3 ht, k4⟩
theorem Full.lt {w : World} {bd : Nat} {t : TypeId} {size : Nat} {P : Nat → Value → Prop} {v : Value} (h : Full w bd t size P v) : ∀ g c, v = .slice (some ⟨g, 0, none⟩) c c → 0 < c → g < bd := by
  obtain ⟨ao, c, h1, h2, h3⟩ := h
  intro g c' e hc
  rw [h1] at e; cases e
  obtain ⟨g', cur, k1, k2, _⟩ := h3 hc
  cases k1; exact k2
theorem Full.grown {w w' : World} {bd bd' : Nat} {t : TypeId} {size : Nat} {P : Nat → Value → Prop} {v : Value} {row : Option Nat} (h : Full w bd t size P v) (hg : w.grownBy w' row) (hr : ∀ g c, v = .slice (some ⟨g, 0, none⟩) c c → 0 < c → row ≠ some g) (hb : bd ≤ bd') : Full w' bd' t size P v := by
  obtain ⟨ao, c, h1, h2, h3⟩ := h
  refine ⟨ao, c, h1, h2, fun hc => ?_⟩
  obtain ⟨g, cur, k1, k2, k3, k4⟩ := h3 hc
  exact ⟨g, cur, k1, by omega, by rw [hg.block g (Array.getElem?_eq_some_iff.1 k3).1 (fun e => hr g c (by rw [h1, k1]) hc e.symm)]; exact k3, k4⟩

/- what is written into each kind of list -/
def isInt (i : Nat) (_ : Nat) (u : Value) : Prop := u = .int .i64 ((i + 1 : Nat) : Int)
def isRow (i : Nat) (_ : Nat) (u : Value) : Prop := ∃ a c, u = .slice a (i + 1) c
def isNum (i : Nat) (q : Nat) (u : Value) : Prop := u = .int .i64 (if q = 0 then ((i + 1 : Nat) : Int) else 0)
def isNode (i : Nat) (q : Nat) (u : Value) : Prop := u = if q = 0 then .int .i64 ((i + 1 : Nat) : Int) else .slice none 0 0

structure HoldIs (w : World) (bb bd hb : Nat) (vi vr vs vd vn : Value) (I R S D N : List Value) : Prop where
  box : w.heap[hb]? = some (.cells #[vi, vr, vs, vd, vn] 55 (0, 0))
  lo : bb ≤ hb
  oi : w.ownsRow bb 40 1 vi I.length I
  or : w.ownsRow bb 31 1 vr R.length R
  os : w.ownsRow bb 25 1 vs S.length S
  od : w.ownsRow bb 26 1 vd D.length D
  on : w.ownsRow bb 56 1 vn N.length N
  fi : ∀ i (h : i < I.length), Full w bd 3 1 (isInt i) I[i]
  fr : ∀ i (h : i < R.length), Full w bd 40 1 (isRow i) R[i]
  fs : ∀ i (h : i < S.length), Full w bd 62 5 (isNum i) S[i]
  fd : ∀ i (h : i < D.length), Full w bd 64 3 (isNum i) D[i]
  fn : ∀ i (h : i < N.length), Full w bd 76 2 (isNode i) N[i]

theorem HoldIs.below {w w' : World} {bb bd hb : Nat} {vi vr vs vd vn : Value} {I R S D N : List Value} (h : HoldIs w bb bd hb vi vr vs vd vn I R S D N) (hb' : Below w.heap.size w w') {bd' : Nat} (h2 : bd ≤ bd') : HoldIs w' bb bd' hb vi vr vs vd vn I R S D N :=
  have hk : Keep [] w w' := Keep.of_below hb'
  ⟨by rw [hb'.block _ (Array.getElem?_eq_some_iff.1 h.box).1]; exact h.box, h.lo, own_below h.oi hb', own_below h.or hb', own_below h.os hb', own_below h.od hb', own_below h.on hb', fun i hi => (h.fi i hi).keep hk (by simp) h2, fun i hi => (h.fr i hi).keep hk (by simp) h2, fun i hi => (h.fs i hi).keep hk (by simp) h2, fun i hi => (h.fd i hi).keep hk (by simp) h2, fun i hi => (h.fn i hi).keep hk (by simp) h2⟩

end Go.Proofs.YtebinaopncclgabGreatDoor
namespace Go.Proofs.YtebinaopncclgabGreatDoor
open Go.RowKit Go.IntWalk

theorem own_at {w : World} {B n : Nat} {e : TypeId} {v : Value} {xs : List Value} (h : w.ownsRow B e 1 v n xs) {i : Nat} (hi : i < n) (hx : i < xs.length) : ∃ g cap, v = .slice (some ⟨g, 0, none⟩) n cap ∧ g < w.heap.size ∧ w.cell? ⟨g, i, none⟩ = some xs[i] := by
  obtain ⟨g, cap, cur, rfl, _, hg, _⟩ := own_shape h (by omega)
  refine ⟨g, cap, rfl, (Array.getElem?_eq_some_iff.1 hg).1, ?_⟩
  rw [h.cellAt i (by omega)]; simp [hx]
end Go.Proofs.YtebinaopncclgabGreatDoor
namespace Go.Proofs.YtebinaopncclgabGreatDoor
open Go.RowKit Go.IntWalk

/- every line that was taken in has its numbers -/
structure RdShape (r : Rd) : Prop where
  stops : ∀ s ∈ r.stops, s.length = 5
  roads : ∀ s ∈ r.roads, s.length = 3
def cellF (ss : List (List Int)) (i j : Nat) : Int := (ss.getD i []).getD j 0
theorem lies_own {w : World} {B m : Nat} {e : TypeId} {v : Value} {ss : List (List Int)} (h : w.ownsRow B e m v ss.length (ints ss.flatten)) (hs : ∀ s ∈ ss, s.length = m) : ∃ ao c, v = .slice ao ss.length c ∧ Lies w ao ss.length m (cellF ss) := by
  obtain ⟨ao, c, hv, h1, h2⟩ := own_val h
  refine ⟨ao, c, hv, fun hn => ?_⟩
  subst hv
  cases ao with
  | none => exact absurd (h2 rfl) (by omega)
  | some a =>
    obtain ⟨g, rfl, _, hg⟩ := h1 a rfl
    refine ⟨g, 0, rfl, hg, fun i j hi hj => ?_⟩
    have hlen := hs ss[i] (List.getElem_mem hi)
    have hij : i * m + j < ss.length * m := by
      have h3 : i * m + m ≤ ss.length * m := by rw [← Nat.succ_mul]; exact Nat.mul_le_mul_right m hi
      omega
    rw [Nat.zero_add, h.cellAt (i * m + j) hij]
    have hz : ss[i][j]? = some (cellF ss i j) := by
      unfold cellF
      rw [List.getElem?_eq_getElem (by omega)]
      simp [hi, List.getD, hlen, hj]
    exact flat_ints hs hi hj hz

end Go.Proofs.YtebinaopncclgabGreatDoor
namespace Go.Proofs.YtebinaopncclgabGreatDoor
open Go.RowKit Go.IntWalk

theorem some_of {w : World} {B n : Nat} {ao : Option Addr} (h : ∀ a, ao = some a → ∃ g, a = ⟨g, 0, none⟩ ∧ B ≤ g ∧ g < w.heap.size) (h0 : ao = none → n = 0) (hn : 0 < n) : ∃ g, ao = some ⟨g, 0, none⟩ ∧ g < w.heap.size := by
  cases ao with
  | none => have := h0 rfl; omega
  | some a => obtain ⟨g, rfl, _, hg⟩ := h a rfl; exact ⟨g, rfl, hg⟩
theorem cellF_at {ss : List (List Int)} {i : Nat} {s : List Int} (hi : i < ss.length) (h : ss[i] = s) (j : Nat) : cellF ss i j = s.getD j 0 := by
  unfold cellF; rw [show ss.getD i [] = ss[i] by simp [hi], h]
theorem ok_fault {r : Rd} (h : RdOk r) : faultS r.vans r.load r.close r.nodes r.home (cellF r.stops) (cellF r.roads) r.stops.length r.roads.length = 0 := by
  have h1 := h.nstops
  have h2 := h.nroads
  refine fault_none (by omega) h.head ?_ ?_
  · unfold allN
    rw [List.all_eq_true]
    intro i hi
    have hi' : i < r.stops.length := by simpa using hi
    obtain ⟨a, b, c, d, e, hs, hk⟩ := h.stops _ (List.getElem_mem hi')
    unfold sOk
    rw [cellF_at hi' hs, cellF_at hi' hs, cellF_at hi' hs, cellF_at hi' hs, cellF_at hi' hs]; exact hk
  · unfold allN
    rw [List.all_eq_true]
    intro i hi
    have hi' : i < r.roads.length := by simpa using hi
    obtain ⟨a, b, c, hs, hk⟩ := h.roads _ (List.getElem_mem hi')
    unfold rOk
    rw [cellF_at hi' hs, cellF_at hi' hs, cellF_at hi' hs]; exact hk
theorem RdOk.shape {r : Rd} (h : RdOk r) : RdShape r := ⟨fun s hs => (h.nice.stops s hs).1, fun s hs => (h.nice.roads s hs).1⟩
theorem fault_ok (B B' : Nat) (r : Rd) (vs vr : Value) (w : World) (hn : RdOk r) (hs : w.ownsRow B 62 5 vs r.stops.length (ints r.stops.flatten)) (hr : w.ownsRow B' 64 3 vr r.roads.length (ints r.roads.flatten)) :
    Calls Tryz.prog 81 #[inst r vs vr] w fun e w' => e = .returned (.int .i64 0) ∧ Below w.heap.size w w' := by
  obtain ⟨aos, caps, rfl, hl⟩ := lies_own hs hn.shape.stops
  obtain ⟨aor, capr, rfl, hl'⟩ := lies_own hr hn.shape.roads
  have h := fault_any r.vans r.load r.close r.nodes r.home (cellF r.stops) (cellF r.roads) aos aor r.stops.length r.roads.length caps capr w (by have := hn.nstops; omega) (by have := hn.nroads; omega) hl hl'
  rw [ok_fault hn] at h
  exact h

end Go.Proofs.YtebinaopncclgabGreatDoor
namespace Go.Proofs.YtebinaopncclgabGreatDoor
open Go.RowKit Go.IntWalk

/- the net in memory: N nodes, the length F a b from node a to node b -/
def NetAt (w : World) (nb N : Nat) (F : Nat → Nat → Int) : Prop :=
  (∃ cs, w.heap[nb]? = some (.cells cs 156 (0, 0))) ∧ w.cell? ⟨nb, 0, none⟩ = some (.int .i64 N) ∧ N ≤ 12 ∧ ∀ a b, a < N → b < N → w.cell? ⟨nb, 1 + a * 12 + b, none⟩ = some (.int .i64 (F a b))
/- nothing but the net has turned -/
structure Only (nb : Nat) (w w' : World) : Prop where
  os : w'.os = w.os
  tape : w'.tape = w.tape
  output : w'.output = w.output
  size : w'.heap.size = w.heap.size
  block : ∀ k, k ≠ nb → w'.heap[k]? = w.heap[k]?
theorem Only.refl (nb : Nat) (w : World) : Only nb w w := ⟨rfl, rfl, rfl, rfl, fun _ _ => rfl⟩
theorem Only.trans {nb : Nat} {a b c : World} (h : Only nb a b) (k : Only nb b c) : Only nb a c := ⟨k.os.trans h.os, k.tape.trans h.tape, k.output.trans h.output, k.size.trans h.size, fun i hi => (k.block i hi).trans (h.block i hi)⟩
theorem Only.drew {nb : Nat} {a b : World} (h : Only nb a b) : Only nb a b.drew := ⟨h.os, h.tape, h.output, h.size, h.block⟩
theorem Only.setCell {nb : Nat} {a b : World} (h : Only nb a b) (o : Nat) (u : Value) : Only nb a (b.setCell ⟨nb, o, none⟩ u) :=
  h.trans ⟨rfl, rfl, rfl, by simp [World.setCell], fun k hk => Below.heap_setCell _ _ _ _ hk⟩
theorem Only.below {nb B : Nat} {w w' : World} (h : Only nb w w') (hB : B ≤ nb) : Below B w w' := ⟨h.os, h.tape, h.output, by rw [h.size]; exact Nat.le_refl _, fun k hk => h.block k (by omega)⟩
theorem net_lt {w : World} {nb N : Nat} {F : Nat → Nat → Int} (h : NetAt w nb N F) : nb < w.heap.size := by obtain ⟨cs, hc⟩ := h.1; exact (Array.getElem?_eq_some_iff.1 hc).1
theorem net_frozen {w : World} {nb N : Nat} {F : Nat → Nat → Int} (h : NetAt w nb N F) (o : Nat) : w.frozen? ⟨nb, o, none⟩ = false := by obtain ⟨cs, hc⟩ := h.1; exact frozen_of_row w nb o _ _ hc
def upd (F : Nat → Nat → Int) (a b : Nat) (v : Int) : Nat → Nat → Int := fun x y => if x = a ∧ y = b then v else F x y
theorem net_cells {w : World} {nb : Nat} {cs : Array Value} {t : TypeId} (hc : w.heap[nb]? = some (.cells cs t (0, 0))) {o p : Nat} {u u' : Value} (ho : w.cell? ⟨nb, o, none⟩ = some u') (v : Value) (hp : w.cell? ⟨nb, p, none⟩ = some u) :
    (w.setCell ⟨nb, o, none⟩ v).cell? ⟨nb, p, none⟩ = some (if p = o then v else u) := by
  rw [cell_of_row _ nb p _ _ _ (heap_setCell_same w nb o cs t v hc)]
  rw [cell_of_row w nb p _ _ _ hc] at hp
  rw [cell_of_row w nb o _ _ _ hc] at ho
  have hol : o < cs.size := (Array.getElem?_eq_some_iff.1 ho).1
  rw [Array.getElem?_setIfInBounds]
  by_cases h : o = p
  · subst h; simp [hol]
  · rw [if_neg h, hp, if_neg (fun e => h e.symm)]
theorem net_put {w : World} {nb N a b : Nat} {F : Nat → Nat → Int} (h : NetAt w nb N F) (ha : a < N) (hb : b < N) (v : Int) : NetAt (w.setCell ⟨nb, 1 + a * 12 + b, none⟩ (.int .i64 v)) nb N (upd F a b v) := by
  obtain ⟨⟨cs, hc⟩, h0, hN, hF⟩ := h
  refine ⟨⟨_, heap_setCell_same w nb _ _ _ _ hc⟩, ?_, hN, fun x y hx hy => ?_⟩
  · rw [net_cells hc (hF a b ha hb) _ h0, if_neg (by omega)]
  · rw [net_cells hc (hF a b ha hb) _ (hF x y hx hy)]
    unfold upd
    by_cases e : x = a ∧ y = b
    · obtain ⟨rfl, rfl⟩ := e; simp
    · rw [if_neg e, if_neg (by omega)]
theorem net_congr {w : World} {nb N : Nat} {F G : Nat → Nat → Int} (h : NetAt w nb N F) (hg : ∀ a b, a < N → b < N → F a b = G a b) : NetAt w nb N G := ⟨h.1, h.2.1, h.2.2.1, fun a b ha hb => by rw [h.2.2.2 a b ha hb, hg a b ha hb]⟩
theorem net_other {w w' : World} {nb N : Nat} {F : Nat → Nat → Int} (h : NetAt w nb N F) (hb : w'.heap[nb]? = w.heap[nb]?) : NetAt w' nb N F := by
  obtain ⟨⟨cs, hc⟩, h0, hN, hF⟩ := h
  refine ⟨⟨cs, by rw [hb]; exact hc⟩, ?_, hN, fun x y hx hy => ?_⟩
  · rw [World.cell?_of_block (a := ⟨nb, 0, none⟩) hb]; exact h0
  · rw [World.cell?_of_block (a := ⟨nb, 1 + x * 12 + y, none⟩) hb]; exact hF x y hx hy

theorem hide' {p : Prop} (h : p) : Hid p := h
def shortS (x v : Int) : Int := if x = -1 ∨ v < x then v else x
set_option maxHeartbeats 1000000 in
theorem shorten_any (nb N a b : Nat) (F : Nat → Nat → Int) (v : Int) (w : World) (h : NetAt w nb N F) (ha : a < N) (hb : b < N) :
    Calls Tryz.prog 83 #[.pointer (some ⟨nb, 0, none⟩), .int .i64 a, .int .i64 b, .int .i64 v] w fun e w' => e = .returned (.tuple #[]) ∧ NetAt w' nb N (upd F a b (shortS (F a b) v)) ∧ Only nb w w' := by
  have hc := h.2.2.2 a b ha hb
  have hf := net_frozen h (1 + a * 12 + b)
  have hN := h.2.2.1
  have H : Hid (NetAt w nb N F) := h
  have ha' : a < 12 := by omega
  have hb' : b < 12 := by omega
  clear h
  go_enter Tryz.func83, Tryz.ntmps83
  by_cases h1 : F a b = -1
  · have hs : shortS (F a b) v = v := by unfold shortS; rw [if_pos (Or.inl h1)]
    have HS := hide' hs
    have e1 : (F a b == -1) = true := by simp [h1]
    have H1 := hide' h1
    clear h1 hs
    go_wp2
    go_end0
    rw [HS.out]
    exact ⟨rfl, net_put H.out ha hb v, (Only.refl _ _).setCell _ _⟩
  · have e1 : (F a b == -1) = false := by simp [h1]
    by_cases h2 : v < F a b
    · have hs : shortS (F a b) v = v := by unfold shortS; rw [if_pos (Or.inr h2)]
      have HS := hide' hs
      clear hs
      go_wp2
      go_end0
      rw [HS.out]
      exact ⟨rfl, net_put H.out ha hb v, (Only.refl _ _).setCell _ _⟩
    · have hs : shortS (F a b) v = F a b := by unfold shortS; rw [if_neg (by omega)]
      have HS := hide' hs
      clear hs
      go_wp2
      go_end0
      rw [HS.out]
      refine ⟨rfl, net_congr H.out (fun x y _ _ => ?_), Only.refl _ _⟩
      unfold upd; split
      · rename_i e; rw [e.1, e.2]
      · rfl

/- clear -/
def diagS (a b : Nat) : Int := if a = b then 0 else -1
set_option maxHeartbeats 1000000 in
theorem clear_any (nb N : Nat) (F : Nat → Nat → Int) (w : World) (h : NetAt w nb N F) :
    Calls Tryz.prog 82 #[.pointer (some ⟨nb, 0, none⟩)] w fun e w' => e = .returned (.tuple #[]) ∧ NetAt w' nb N diagS ∧ Only nb w w' := by
  have hN := h.2.2.1
  have H : Hid (NetAt w nb N F) := h
  clear h
  go_enter Tryz.func82, Tryz.ntmps82
  go_wp2
  go_loopw [2, 3] (fun i j wr => ∃ a : Nat, i = .int .i64 a ∧ a ≤ N ∧ Hid (∃ G, NetAt wr nb N G ∧ ∀ x y, x < a → y < N → G x y = diagS x y) ∧ Hid (Only nb w wr)) (fun i _ _ => N - (intOf i).toNat)
  case atStart => exact ⟨0, rfl, by omega, ⟨F, H.out, fun x y hx => by omega⟩, Only.refl _ _⟩
  case round =>
    obtain ⟨a, rfl, ha, HG, HO⟩ := hrel
    obtain ⟨G, hG, hD⟩ := HG.out
    have c0 := hG.2.1
    by_cases hlt : a < N
    · have HG' := hide' hG
      have HD := hide' hD
      clear hG hD HG
      go_wp2
      go_loopw [3] (fun j wx => ∃ b : Nat, j = .int .i64 b ∧ b ≤ N ∧ Hid (∃ G', NetAt wx nb N G' ∧ (∀ x y, x < a → y < N → G' x y = diagS x y) ∧ ∀ y, y < b → G' a y = -1) ∧ Hid (Only nb w wx)) (fun j _ => N - (intOf j).toNat)
      case atStart => exact ⟨0, rfl, by omega, ⟨G, HG'.out, HD.out, fun y hy => by omega⟩, HO⟩
      case round =>
        clear HG' HD HO c0
        obtain ⟨b, rfl, hb, HG, HO⟩ := hrel
        obtain ⟨G', hG, hD, hR⟩ := HG.out
        have c0 := hG.2.1
        have ha12 : a < 12 := by omega
        by_cases hlb : b < N
        · have hb12 : b < 12 := by omega
          have hc := hG.2.2.2 a b hlt hlb
          have hf := net_frozen hG (1 + a * 12 + b)
          have HG' := hide' hG
          have HD := hide' hD
          have HR := hide' hR
          clear hG hD hR HG
          go_wp2
          go_roundw
          case rel =>
            refine ⟨b + 1, by go_num, by omega, ⟨upd G' a b (-1), net_put HG'.out hlt hlb _, fun x y hx hy => ?_, fun y hy => ?_⟩, HO.out.setCell _ _⟩
            · unfold upd; rw [if_neg (by omega)]; exact HD.out x y hx hy
            · unfold upd; by_cases e : y = b
              · rw [if_pos ⟨rfl, e⟩]
              · rw [if_neg (by omega)]; exact HR.out y (by omega)
          case measure => simp [intOf]; omega
        · have hc := hG.2.2.2 a a hlt hlt
          have hf := net_frozen hG (1 + a * 12 + a)
          have HG' := hide' hG
          have HD := hide' hD
          have HR := hide' hR
          clear hG hD hR HG
          go_wp2
          go_roundw
          case rel =>
            refine ⟨a + 1, by go_num, by omega, ⟨upd G' a a 0, net_put HG'.out hlt hlt _, fun x y hx hy => ?_⟩, HO.out.setCell _ _⟩
            unfold upd
            by_cases e : x = a ∧ y = a
            · rw [if_pos e, e.1, e.2]; simp [diagS]
            · rw [if_neg e]
              by_cases ex : x = a
              · subst ex; rw [HR.out y (by omega)]; unfold diagS; rw [if_neg (by omega)]
              · exact HD.out x y (by omega) hy
          case measure => simp [intOf]; omega
    · have HG' := hide' hG
      have HD := hide' hD
      clear hG hD HG
      go_wp2
      go_end0
      exact ⟨rfl, net_congr HG'.out (fun x y hx hy => HD.out x y (by omega) hy), HO.out⟩
end Go.Proofs.YtebinaopncclgabGreatDoor
namespace Go.Proofs.YtebinaopncclgabGreatDoor
open Go.RowKit Go.IntWalk

def sites (r : Rd) : List Int := r.home :: r.stops.map (fun s => s.getD 0 0)
theorem sites_length (r : Rd) : (sites r).length = r.stops.length + 1 := by simp [sites]

set_option maxRecDepth 100000 in
set_option maxHeartbeats 2000000 in
theorem siteNodes_any (B B' : Nat) (r : Rd) (vs vr : Value) (w : World) (hn : RdNice r) (hs : w.ownsRow B 62 5 vs r.stops.length (ints r.stops.flatten)) (hr : w.ownsRow B' 64 3 vr r.roads.length (ints r.roads.flatten)) :
    Calls Tryz.prog 85 #[inst r vs vr] w fun e w' => ∃ v, e = .returned v ∧ w'.ownsRow w.heap.size 3 1 v (r.stops.length + 1) (ints (sites r)) ∧ Below w.heap.size w w' := by
  obtain ⟨i0, hi, hz0, hz1, hz2⟩ := info_parts Tryz.infoInt
  have hns := hn.nstops
  obtain ⟨aos, caps, rfl, has, hsn⟩ := own_val hs
  obtain ⟨aor, capr, rfl, har, hrn⟩ := own_val hr
  have HS := hide hs
  have HN := hide hn
  have HAS := hide has
  have HSN := hide hsn
  clear hs hr hn has hsn har hrn
  unfold inst
  go_enter Tryz.func85, Tryz.ntmps85
  go_wp2_with fail
  obtain ⟨bx, hbx⟩ : ∃ bx, bx = (w.alloc (.cells #[.int .i64 r.vans, .int .i64 r.load, .int .i64 r.close, .int .i64 r.nodes, .int .i64 r.home, .slice aos r.stops.length caps, .slice aor r.roads.length capr] 28)) := ⟨_, rfl⟩
  have HB5 : Hid (bx.cell? ⟨w.heap.size, 5, none⟩ = some (.slice aos r.stops.length caps)) := by show _ = _; rw [hbx]; simp [go_sem]
  have hbs : w.heap.size + 1 ≤ bx.heap.size := by rw [hbx]; simp
  have HBX := hide hbx
  clear hbx
  go_loopw [3, 4] (fun v i wr => ∃ k : Nat, i = .int .i64 k ∧ k ≤ r.stops.length ∧ Hid (wr.ownsRow (w.heap.size + 1) 3 1 v (k + 1) (ints ((sites r).take (k + 1)))) ∧ Hid (Below w.heap.size w wr) ∧ Hid (Below (w.heap.size + 1) bx wr)) (fun _ i _ => r.stops.length - (intOf i).toNat)
  case atStart =>
    refine ⟨0, rfl, by omega, ?_, below2 _ _ _, ?_⟩
    · have := World.ownsRow_lit (base := w.heap.size + 1) (e := 3) (size := 1) (w.alloc (.cells #[.int .i64 r.vans, .int .i64 r.load, .int .i64 r.close, .int .i64 r.nodes, .int .i64 r.home, .slice aos r.stops.length caps, .slice aor r.roads.length capr] 28)) #[.int .i64 r.home] 1 (by simp) (by unfold maxLen; omega) rfl
      show World.ownsRow _ _ _ _ _ _ _
      simpa [sites, ints] using this
    · show Below _ _ _
      rw [HBX.out]; exact (Below.refl _ _).alloc (by simp) _
  case round =>
    obtain ⟨k, rfl, hk, HO, HW, HBW⟩ := hrel
    have d5 : wr.cell? ⟨w.heap.size, 5, none⟩ = some (.slice aos r.stops.length caps) := (HBW.out.cell (by simp)).trans HB5.out
    have hsz : w.heap.size + 1 ≤ wr.heap.size := Nat.le_trans hbs HBW.out.size
    obtain ⟨g1, cap1, cur1, rfl, hg1, _, hcap1⟩ := own_shape HO.out (by omega)
    by_cases hlt : k < r.stops.length
    · obtain ⟨g, rfl, hgl⟩ := some_of HAS.out HSN.out (by omega)
      obtain ⟨a, b, c, d, e, hab⟩ := five (HN.out.stops _ (List.getElem_mem hlt)).1
      have hcl : ∀ j z, j < 5 → r.stops[k][j]? = some z → wr.cell? ⟨g, k * 5 + j, none⟩ = some (.int .i64 z) := by
        intro j z hj hz
        rw [HW.out.cell (by exact hgl), HS.out.cellAt (k * 5 + j) (by omega)]
        exact flat_ints (fun s hs => (HN.out.stops s hs).1) hlt hj hz
      rw [hab] at hcl
      have x0 : wr.cell? ⟨g, k * 5, none⟩ = some (.int .i64 a) := hcl 0 a (by omega) rfl
      have HT : Hid ((sites r).take (k + 1 + 1) = (sites r).take (k + 1) ++ [a]) := by
        show _ = _
        rw [List.take_succ_eq_append_getElem (by rw [sites_length]; omega)]
        simp [sites, hab]
      clear hcl hab
      have hgw : g < wr.heap.size := by omega
      go_wp2_with (first
        | (at_builtin; refine wpList_append_own _ rfl _ _ 40 rfl (w.heap.size + 1) 3 i0 (.int .i64 0) 1 8 Tryz.underlying40 hi hz0 hz1 hz2 rfl (by decide) _ _ _ rfl (HO.out.alloc _) ⟨wr.heap.size, 0, none⟩ 1 1 [.int .i64 a] rfl rfl ?c1 ?c2 ?c3 ?c4 ?c5 ?_)
        | go_in)
      case c1 => exact cell_one_new _ _ _
      case c2 => intro u hu; simp at hu; subst hu; rfl
      case c3 => unfold maxLen; omega
      case c4 => omega
      case c5 => simp; omega
      intro v' w2 hown' hgrow _
      have HO' := hide hown'
      have HG := hide hgrow
      clear hown' hgrow d5 x0
      go_wp2
      go_roundw
      case rel =>
        refine ⟨k + 1, by go_num, by omega, ?_, ?_, ?_⟩
        · show World.ownsRow _ _ _ _ _ _ _
          rw [HT.out, ints_append]; exact HO'.out
        · exact (HW.out.alloc (by omega) _).grown HG.out (by simp; omega) (fun q hq => by have := (HO.out.lt q hq).1; omega)
        · refine (HBW.out.alloc (by omega) _).grown HG.out (by simp; omega) (fun q hq => ?_)
          exact (HO.out.lt q hq).1
      case measure => simp [intOf]; omega
    · go_wp2
      go_ret
      have hke : k = r.stops.length := by omega
      subst hke
      refine ⟨_, rfl, ?_, HW.out⟩
      have h := HO.out
      rw [List.take_of_length_le (by rw [sites_length]; omega)] at h
      exact own_base h (by omega)

/- a table of numbers in memory, from block B on: n rows of n -/
def Grid (w : World) (B : Nat) (v : Value) (n : Nat) (D : Nat → Nat → Int) : Prop :=
  ∃ g, v = .slice (some ⟨g, 0, none⟩) n n ∧ (B ≤ g ∧ g < w.heap.size) ∧ ∀ i, i < n → ∃ gi, w.cell? ⟨g, i, none⟩ = some (.slice (some ⟨gi, 0, none⟩) n n) ∧ (B ≤ gi ∧ gi < w.heap.size) ∧ ∀ j, j < n → w.cell? ⟨gi, j, none⟩ = some (.int .i64 (D i j))
theorem Grid.kept {w w' : World} {B : Nat} {v : Value} {n : Nat} {D : Nat → Nat → Int} (h : Grid w B v n D) (hs : w.heap.size ≤ w'.heap.size) (hb : ∀ k, B ≤ k → k < w.heap.size → w'.heap[k]? = w.heap[k]?) : Grid w' B v n D := by
  obtain ⟨g, hv, hg, hi⟩ := h
  refine ⟨g, hv, by omega, fun i hn => ?_⟩
  obtain ⟨gi, h1, h2, h3⟩ := hi i hn
  exact ⟨gi, by rw [World.cell?_of_block (a := ⟨g, i, none⟩) (hb g hg.1 hg.2)]; exact h1, by omega, fun j hj => by rw [World.cell?_of_block (a := ⟨gi, j, none⟩) (hb gi h2.1 h2.2)]; exact h3 j hj⟩
theorem Grid.below {w w' : World} {B : Nat} {v : Value} {n : Nat} {D : Nat → Nat → Int} (h : Grid w B v n D) (hb : Below w.heap.size w w') : Grid w' B v n D := h.kept hb.size (fun k _ hk => hb.block k hk)
theorem Grid.grown {w w' : World} {B : Nat} {v : Value} {n : Nat} {D : Nat → Nat → Int} {row : Option Nat} (h : Grid w B v n D) (hg : w.grownBy w' row) (hr : ∀ k, row = some k → k < B) : Grid w' B v n D :=
  h.kept hg.size (fun k hB hk => hg.block k hk (fun e => by have := hr k e.symm; omega))
theorem Grid.setCell {w : World} {B p o : Nat} {v : Value} {n : Nat} {D : Nat → Nat → Int} (h : Grid w B v n D) (hp : p < B) (u : Value) : Grid (w.setCell ⟨p, o, none⟩ u) B v n D :=
  h.kept (by simp [World.setCell]) (fun k hB _ => Below.heap_setCell _ _ _ _ (by show k ≠ p; omega))
theorem Grid.base {w : World} {B B' : Nat} {v : Value} {n : Nat} {D : Nat → Nat → Int} (h : Grid w B v n D) (hB : B' ≤ B) : Grid w B' v n D := by
  obtain ⟨g, hv, hg, hi⟩ := h
  refine ⟨g, hv, by omega, fun i hn => ?_⟩
  obtain ⟨gi, h1, h2, h3⟩ := hi i hn
  exact ⟨gi, h1, by omega, h3⟩
/- the same, and whose it is: every row a block of its own, with no room left -/
def GridO (w : World) (B : Nat) (v : Value) (n : Nat) (D : Nat → Nat → Int) : Prop :=
  ∃ (g : Nat) (G : Nat → Nat), v = .slice (some ⟨g, 0, none⟩) n n ∧ w.ownsRow B 40 1 v n ((List.range n).map fun i => Value.slice (some ⟨G i, 0, none⟩) n n) ∧ (∀ i, i < n → B ≤ G i ∧ ∃ ci, w.heap[G i]? = some (.cells ci 3 (0, 0)) ∧ ci.size = n ∧ ∀ j, j < n → ci[j]? = some (.int .i64 (D i j))) ∧ ∀ i i', i < i' → i' < n → G i < G i'
theorem own_row {w : World} {B g n c : Nat} {e : TypeId} {xs : List Value} (h : w.ownsRow B e 1 (.slice (some ⟨g, 0, none⟩) n c) n xs) : B ≤ g ∧ ∃ cur, w.heap[g]? = some (.cells cur e (0, 0)) ∧ cur.size = c ∧ ∀ j, j < n → cur[j]? = xs[j]? := by
  rcases h.2 with ⟨hh, _⟩ | ⟨g', cap, cur, hv, hb, hg, _, _, hz, ht⟩
  · cases hh
  · cases hv
    refine ⟨hb, cur, hg, by simpa using hz, fun j hj => ?_⟩
    rw [← ht, List.getElem?_take_of_lt (by omega)]; simp
theorem GridO.grid {w : World} {B : Nat} {v : Value} {n : Nat} {D : Nat → Nat → Int} (h : GridO w B v n D) : Grid w B v n D := by
  obtain ⟨g, G, rfl, ho, hr, _⟩ := h
  obtain ⟨hb, cur, hg, _, hc⟩ := own_row ho
  refine ⟨g, rfl, ⟨hb, (Array.getElem?_eq_some_iff.1 hg).1⟩, fun i hi => ?_⟩
  obtain ⟨h1, ci, h2, _, h4⟩ := hr i hi
  refine ⟨G i, ?_, ⟨h1, (Array.getElem?_eq_some_iff.1 h2).1⟩, fun j hj => by rw [cell_of_row _ _ _ _ _ _ h2]; exact h4 j hj⟩
  rw [cell_of_row _ _ _ _ _ _ hg, hc i hi]; simp [hi]
theorem GridO.below {w w' : World} {B : Nat} {v : Value} {n : Nat} {D : Nat → Nat → Int} (h : GridO w B v n D) (hb : Below w.heap.size w w') : GridO w' B v n D := by
  obtain ⟨g, G, h1, h2, h3, h4⟩ := h
  refine ⟨g, G, h1, own_below h2 hb, fun i hi => ?_, h4⟩
  obtain ⟨k1, ci, k2, k3⟩ := h3 i hi
  exact ⟨k1, ci, by rw [hb.block _ (Array.getElem?_eq_some_iff.1 k2).1]; exact k2, k3⟩
theorem GridO.base {w : World} {B B' : Nat} {v : Value} {n : Nat} {D : Nat → Nat → Int} (h : GridO w B v n D) (hb : B' ≤ B) : GridO w B' v n D := by
  obtain ⟨g, G, h1, h2, h3, h4⟩ := h
  exact ⟨g, G, h1, own_base h2 hb, fun i hi => ⟨Nat.le_trans hb (h3 i hi).1, (h3 i hi).2⟩, h4⟩
theorem Tryz.infoInts : (Tryz.prog.info? 40).map (fun i => (i.zero, i.size, i.bytes)) = some (some (.slice none 0 0), 1, 24) := by kernel_rfl

/- the rows so far: the i-th is a block of its own -/
def rowsTo (G : Nat → Nat) (n k : Nat) : List Value := (List.range n).map fun i => if i < k then Value.slice (some ⟨G i, 0, none⟩) n n else .slice none 0 0
def rowTo (D : Nat → Int) (n k : Nat) : List Value := (List.range n).map fun j => if j < k then Value.int .i64 (D j) else .int .i64 0
theorem rowTo_zero (D : Nat → Int) (n : Nat) : rowTo D n 0 = List.replicate n (.int .i64 0) := by
  unfold rowTo; simp [List.map_const', List.length_range]
theorem rowsTo_zero (G : Nat → Nat) (n : Nat) : rowsTo G n 0 = List.replicate n (.slice none 0 0) := by
  unfold rowsTo; simp [List.map_const', List.length_range]
theorem rowTo_set {D : Nat → Int} {n k : Nat} (h : k < n) : (rowTo D n k).set k (.int .i64 (D k)) = rowTo D n (k + 1) := by
  apply List.ext_getElem?; intro i
  unfold rowTo
  by_cases hi : i < n
  · rw [List.getElem?_set]
    by_cases e : k = i
    · subst e; simp [h]
    · simp [e, hi]
      by_cases h1 : i < k
      · simp [h1, show i < k + 1 by omega]
      · simp [h1, show ¬ i < k + 1 by omega]
  · rw [List.getElem?_eq_none (by simp; omega), List.getElem?_eq_none (by simp; omega)]
theorem rowsTo_set {G : Nat → Nat} {n k g : Nat} (h : k < n) : (rowsTo G n k).set k (.slice (some ⟨g, 0, none⟩) n n) = rowsTo (fun i => if i = k then g else G i) n (k + 1) := by
  apply List.ext_getElem?; intro i
  unfold rowsTo
  by_cases hi : i < n
  · rw [List.getElem?_set]
    by_cases e : k = i
    · subst e; simp [h]
    · have e' : ¬ i = k := fun x => e x.symm
      simp [e, e', hi]
      by_cases h1 : i < k
      · simp [h1, show i < k + 1 by omega]
      · simp [h1, show ¬ i < k + 1 by omega]
  · rw [List.getElem?_eq_none (by simp; omega), List.getElem?_eq_none (by simp; omega)]
end Go.Proofs.YtebinaopncclgabGreatDoor
namespace Go.Proofs.YtebinaopncclgabGreatDoor
open Go.RowKit Go.IntWalk

theorem own_cells_int {w : World} {B g n c : Nat} {e : TypeId} {xs : List Value} (h : w.ownsRow B e 1 (.slice (some ⟨g, 0, none⟩) n c) n xs) : g < w.heap.size := by
  rcases h.2 with ⟨h0, _⟩ | ⟨g', cap, cur, hv, _, hg, _⟩
  · cases h0
  · cases hv; exact (Array.getElem?_eq_some_iff.1 hg).1
theorem rowTo_at {D : Nat → Int} {n k : Nat} (h : k < n) : (rowTo D n k)[k]? = some (.int .i64 0) := by simp [rowTo, h]
theorem rowsTo_at {G : Nat → Nat} {n k : Nat} (h : k < n) : (rowsTo G n k)[k]? = some (.slice none 0 0) := by simp [rowsTo, h]

theorem cell_aside (w : World) {b o p q : Nat} (u : Value) (h : ¬ b = p) : (w.setCell ⟨p, q, none⟩ u).cell? ⟨b, o, none⟩ = w.cell? ⟨b, o, none⟩ :=
  World.cell?_of_block (a := ⟨b, o, none⟩) (Below.heap_setCell _ _ _ _ (by exact h))

set_option maxRecDepth 100000 in
set_option maxHeartbeats 2000000 in
theorem table_own (nb N n g0 c0 Bs : Nat) (F : Nat → Nat → Int) (S : Nat → Nat) (w : World) (h : NetAt w nb N F) (hn1 : 1 ≤ n) (hn : n ≤ 8) (hS : ∀ i, i < n → S i < N)
    (hs : w.ownsRow Bs 3 1 (.slice (some ⟨g0, 0, none⟩) n c0) n (ints ((List.range n).map fun i => (S i : Int)))) :
    Calls Tryz.prog 86 #[.pointer (some ⟨nb, 0, none⟩), .slice (some ⟨g0, 0, none⟩) n c0] w fun e w' => ∃ v, e = .returned v ∧ GridO w' w.heap.size v n (fun i j => F (S i) (S j)) ∧ Below w.heap.size w w' := by
  obtain ⟨i0, hi, hz0, hz1, hz2⟩ := info_parts Tryz.infoInt
  obtain ⟨j0, hj, hy0, hy1, hy2⟩ := info_parts Tryz.infoInts
  have hN := h.2.2.1
  have HN := hide' h
  have HSS := hide' hS
  have hg0 := own_cells_int hs
  have hnb := net_lt h
  have HSC : Hid (∀ i, i < n → w.cell? ⟨g0, i, none⟩ = some (.int .i64 (S i))) := fun i hi => by
    rw [hs.cellAt i (by omega)]; simp [ints, hi]
  clear h hS hs
  go_enter Tryz.func86, Tryz.ntmps86
  go_wp2_with (first
    | (at_make; refine wpList_make_full _ rfl _ _ 31 rfl w.heap.size 40 j0 (.slice none 0 0) 1 Tryz.underlying31 hj hy0 hy1 .i64 .i64 _ _ n rfl rfl ?m1 ?m2 ?m3 ?m4 ?m5 ?_)
    | fail)
  case m1 => rfl
  case m2 => rfl
  case m3 => rw [hy2]; omega
  case m4 => unfold maxLen; omega
  case m5 => exact Nat.le_refl _
  intro w1 hown1 hgrow1
  have HB1 : Hid (Below w.heap.size w w1) := (Below.refl _ _).grown hgrow1 (Nat.le_refl _) (by simp)
  have HO1 : Hid (w1.ownsRow w.heap.size 40 1 (.slice (some ⟨w.heap.size, 0, none⟩) n n) n (rowsTo (fun _ => 0) n 0)) := by
    show World.ownsRow _ _ _ _ _ _ _
    have e : (madeCells #[Value.slice none 0 0] n).toList = rowsTo (fun _ => 0) n 0 := by rw [toList_madeCells_one, rowsTo_zero]
    rw [← e]; simpa using hown1
  clear hown1 hgrow1
  go_wp2
  go_loopw [6, 7, 8] (fun i _ _ wr => ∃ (k : Nat) (G : Nat → Nat), i = .int .i64 k ∧ k ≤ n ∧ Hid (wr.ownsRow w.heap.size 40 1 (.slice (some ⟨w.heap.size, 0, none⟩) n n) n (rowsTo G n k)) ∧
      Hid (∀ i, i < k → w.heap.size < G i ∧ (∃ ci, wr.heap[G i]? = some (.cells ci 3 (0, 0)) ∧ ci.size = n ∧ ∀ j, j < n → ci[j]? = some (.int .i64 (F (S i) (S j)))) ∧ ∀ i', i' < i → G i' < G i) ∧ Hid (Below w.heap.size w wr)) (fun i _ _ _ => n - (intOf i).toNat)
  case atStart => exact ⟨0, fun _ => 0, rfl, by omega, HO1, fun i hi => by omega, HB1⟩
  case round =>
    clear HO1 HB1
    obtain ⟨k, G, rfl, hk, HO, HG, HB⟩ := hrel
    obtain ⟨wo, rfl⟩ : ∃ wo, wo = wr := ⟨_, rfl⟩
    have hbz := HB.out.size
    have hrz := own_cells_int HO.out
    by_cases hlt : k < n
    · go_wp2_with (first
        | (at_make; refine wpList_make_full _ rfl _ _ 40 rfl wo.heap.size 3 i0 (.int .i64 0) 1 Tryz.underlying40 hi hz0 hz1 .i64 .i64 _ _ n rfl rfl ?q1 ?q2 ?q3 ?q4 ?q5 ?_)
        | fail)
      case q1 => rfl
      case q2 => rfl
      case q3 => rw [hz2]; omega
      case q4 => unfold maxLen; omega
      case q5 => exact Nat.le_refl _
      intro w2 hown2 hgrow2
      have HB2 : Hid (Below wo.heap.size wo w2) := (Below.refl _ _).grown hgrow2 (Nat.le_refl _) (by simp)
      have HO2 : Hid (w2.ownsRow wo.heap.size 3 1 (.slice (some ⟨wo.heap.size, 0, none⟩) n n) n (rowTo (fun j => F (S k) (S j)) n 0)) := by
        show World.ownsRow _ _ _ _ _ _ _
        have e : (madeCells #[Value.int .i64 0] n).toList = rowTo (fun j => F (S k) (S j)) n 0 := by rw [toList_madeCells_one, rowTo_zero]
        rw [← e]; simpa using hown2
      clear hown2 hgrow2
      go_wp2
      go_loopw [8] (fun j wr => ∃ q : Nat, j = .int .i64 q ∧ q ≤ n ∧ Hid (wr.ownsRow wo.heap.size 3 1 (.slice (some ⟨wo.heap.size, 0, none⟩) n n) n (rowTo (fun j => F (S k) (S j)) n q)) ∧ Hid (Below wo.heap.size wo wr)) (fun j _ => n - (intOf j).toNat)
      case atStart => exact ⟨0, rfl, by omega, HO2, HB2⟩
      case round =>
        clear HO2 HB2
        obtain ⟨q, rfl, hq, HQ, HB2⟩ := hrel
        have hb2 := HB2.out.size
        by_cases hlq : q < n
        · have sk := HSS.out k hlt
          have sq := HSS.out q hlq
          have s1 : wr.cell? ⟨g0, k, none⟩ = some (.int .i64 (S k)) := ((HB2.out.cell (p := ⟨g0, k, none⟩) (by show g0 < _; omega)).trans (HB.out.cell (p := ⟨g0, k, none⟩) hg0)).trans (HSC.out k hlt)
          have s2 : wr.cell? ⟨g0, q, none⟩ = some (.int .i64 (S q)) := ((HB2.out.cell (p := ⟨g0, q, none⟩) (by show g0 < _; omega)).trans (HB.out.cell (p := ⟨g0, q, none⟩) hg0)).trans (HSC.out q hlq)
          have s3 : wr.cell? ⟨nb, 1 + S k * 12 + S q, none⟩ = some (.int .i64 (F (S k) (S q))) := ((HB2.out.cell (p := ⟨nb, 1 + S k * 12 + S q, none⟩) (by show nb < _; omega)).trans (HB.out.cell (p := ⟨nb, 1 + S k * 12 + S q, none⟩) hnb)).trans (HN.out.2.2.2 _ _ sk sq)
          have s4 : wr.cell? ⟨wo.heap.size, q, none⟩ = some (.int .i64 0) := by rw [HQ.out.cellAt q (by omega)]; exact rowTo_at hlq
          have s5 := HQ.out.frozenAt q
          have HST := hide' (HQ.out.stored q (.int .i64 (F (S k) (S q)))).1
          have ik : (0 : Int) ≤ (k : Int) := by omega
          have iq : (0 : Int) ≤ (q : Int) := by omega
          have jk : (k : Int) < (n : Int) := by omega
          have jq : (q : Int) < (n : Int) := by omega
          have k1 : (S k : Int) < 12 := by omega
          have k2 : (S q : Int) < 12 := by omega
          have hne1 : ¬ nb = wo.heap.size := by omega
          have hne2 : ¬ g0 = wo.heap.size := by omega
          generalize hf : F (S k) (S q) = f at *
          have HF := hide' hf
          clear hf
          generalize hsk : S k = sK at *
          generalize hsq : S q = sQ at *
          have HK := hide' hsk
          have HQ' := hide' hsq
          clear hsk hsq
          have t1 := (cell_aside wr (b := g0) (o := k) (p := wo.heap.size) (q := q) (.int .i64 f) hne2).trans s1
          have t2 := (cell_aside wr (b := g0) (o := q) (p := wo.heap.size) (q := q) (.int .i64 f) hne2).trans s2
          have t3 := (cell_aside wr (b := nb) (o := 1 + sK * 12 + sQ) (p := wo.heap.size) (q := q) (.int .i64 f) hne1).trans s3
          go_wp2_with fail
          go_region_held3 (fun w' => w'.cell? ⟨g0, k, none⟩ = some (.int .i64 sK) ∧ w'.cell? ⟨g0, q, none⟩ = some (.int .i64 sQ) ∧ w'.cell? ⟨nb, 1 + sK * 12 + sQ, none⟩ = some (.int .i64 f)) (go_keep) (fail)
          clear t1 t2 t3 s1 s2 s3 s4 s5
          go_wp2
          go_roundw
          case rel =>
            refine ⟨q + 1, by go_num, by omega, ?_, ?_⟩
            · show World.ownsRow _ _ _ _ _ _ _
              rw [← rowTo_set hlq]
              have e : F sK (S q) = f := by rw [HQ'.out]; exact HF.out
              rw [e]
              exact own_heap HST.out rfl
            · exact (HB2.out.setCell (by exact Nat.le_refl _) _).drew
          case measure => simp [intOf]; omega
        · have hqe : q = n := by omega
          subst hqe
          have r1 : wr.cell? ⟨w.heap.size, k, none⟩ = some (.slice none 0 0) := by
            rw [HB2.out.cell (p := ⟨w.heap.size, k, none⟩) (by exact hrz), HO.out.cellAt k (by omega)]; exact rowsTo_at hlt
          have HOw : Hid (wr.ownsRow w.heap.size 40 1 (.slice (some ⟨w.heap.size, 0, none⟩) q q) q (rowsTo G q k)) := own_below HO.out HB2.out
          have r2 := HOw.out.frozenAt k
          have HST := hide' (HOw.out.stored k (.slice (some ⟨wo.heap.size, 0, none⟩) q q)).1
          have hgz := own_cells_int HQ.out
          go_wp2
          go_roundw
          case rel =>
            refine ⟨k + 1, fun i => if i = k then wo.heap.size else G i, by go_num, by omega, ?_, ?_, ?_⟩
            · show World.ownsRow _ _ _ _ _ _ _
              rw [← rowsTo_set hlt]; exact HST.out
            · intro i hi
              by_cases e : i = k
              · subst e
                obtain ⟨_, cur, hc1, hc2, hc3⟩ := own_row HQ.out
                refine ⟨by simp; omega, ⟨cur, ?_, hc2, fun j hj => by rw [hc3 j hj]; simp [rowTo, hj]⟩, fun i' hi' => ?_⟩
                · dsimp only; rw [if_pos rfl, Below.heap_setCell _ _ _ _ (by show wo.heap.size ≠ w.heap.size; omega)]; exact hc1
                · dsimp only; rw [if_pos rfl, if_neg (by omega)]
                  obtain ⟨_, ⟨ci, h2, _⟩, _⟩ := HG.out i' hi'
                  exact (Array.getElem?_eq_some_iff.1 h2).1
              · obtain ⟨g1, ⟨ci, g2, g3, g4⟩, g5⟩ := HG.out i (by omega)
                refine ⟨by dsimp only; rw [if_neg e]; exact g1, ⟨ci, ?_, g3, g4⟩, fun i' hi' => by dsimp only; rw [if_neg e, if_neg (by omega)]; exact g5 i' hi'⟩
                dsimp only; rw [if_neg e, Below.heap_setCell _ _ _ _ (by show G i ≠ w.heap.size; omega), HB2.out.block _ (Array.getElem?_eq_some_iff.1 g2).1]; exact g2
            · exact (HB.out.trans (HB2.out.mono hbz)).setCell (by exact Nat.le_refl _) _
          case measure => simp [intOf]; omega
    · have hke : k = n := by omega
      subst hke
      go_wp2
      go_ret
      refine ⟨_, rfl, ⟨w.heap.size, G, rfl, ?_, fun i hi => ?_, fun i i' h1 h2 => (HG.out i' h2).2.2 i h1⟩, HB.out⟩
      · have h := HO.out
        have e : rowsTo G k k = (List.range k).map fun i => Value.slice (some ⟨G i, 0, none⟩) k k := by
          unfold rowsTo; apply List.map_congr_left; intro i hi; rw [if_pos (by simpa using hi)]
        rw [e] at h; exact h
      · obtain ⟨g1, g2, _⟩ := HG.out i hi
        exact ⟨by omega, g2⟩
end Go.Proofs.YtebinaopncclgabGreatDoor
namespace Go.Proofs.YtebinaopncclgabGreatDoor
open Go.RowKit

def gF (v : Nat) (F : Nat → Nat → Int) (x y : Nat) : Int := if F x v ≠ -1 ∧ F v y ≠ -1 then shortS (F x y) (F x v + F v y) else F x y
def mixF (v : Nat) (F : Nat → Nat → Int) (a b : Nat) : Nat → Nat → Int := fun x y => if x < a ∨ (x = a ∧ y < b) then gF v F x y else F x y
/- what the lengths may be -/
def Lens (N : Nat) (M : Int) (F : Nat → Nat → Int) : Prop := (∀ x, x < N → F x x = 0) ∧ ∀ x y, x < N → y < N → -1 ≤ F x y ∧ F x y ≤ M
theorem shortS_self {x v : Int} (hx : x ≠ -1) (h : x ≤ v) : shortS x v = x := by unfold shortS; rw [if_neg (by omega)]
theorem gF_col {N v x : Nat} {M : Int} {F : Nat → Nat → Int} (h : Lens N M F) (hv : v < N) : gF v F x v = F x v := by
  unfold gF
  split
  · rename_i e; rw [h.1 v hv]; exact shortS_self e.1 (by omega)
  · rfl
theorem gF_row {N v y : Nat} {M : Int} {F : Nat → Nat → Int} (h : Lens N M F) (hv : v < N) : gF v F v y = F v y := by
  unfold gF
  split
  · rename_i e; rw [h.1 v hv]; exact shortS_self e.2 (by omega)
  · rfl
theorem mix_col {N v x a b : Nat} {M : Int} {F : Nat → Nat → Int} (h : Lens N M F) (hv : v < N) : mixF v F a b x v = F x v := by
  unfold mixF; split
  · exact gF_col h hv
  · rfl
theorem mix_row {N v y a b : Nat} {M : Int} {F : Nat → Nat → Int} (h : Lens N M F) (hv : v < N) : mixF v F a b v y = F v y := by
  unfold mixF; split
  · exact gF_row h hv
  · rfl
theorem mix_at (v a b : Nat) (F : Nat → Nat → Int) : mixF v F a b a b = F a b := by unfold mixF; rw [if_neg (by omega)]
theorem mix_next {v a b : Nat} {F : Nat → Nat → Int} {u : Int} (hu : u = gF v F a b) (x y : Nat) : upd (mixF v F a b) a b u x y = mixF v F a (b + 1) x y := by
  unfold upd mixF
  by_cases e : x = a ∧ y = b
  · rw [if_pos e, if_pos (by omega), e.1, e.2, hu]
  · rw [if_neg e]
    by_cases h : x < a ∨ (x = a ∧ y < b)
    · rw [if_pos h, if_pos (by omega)]
    · rw [if_neg h, if_neg (by omega)]
theorem mix_same {v a b : Nat} {F : Nat → Nat → Int} (hu : F a b = gF v F a b) (x y : Nat) : mixF v F a b x y = mixF v F a (b + 1) x y := by
  rw [← mix_next hu]; unfold upd; split
  · rename_i e; rw [e.1, e.2, mix_at]
  · rfl
theorem mix_next' {v a b N : Nat} {F : Nat → Nat → Int} {u : Int} (hu : u = gF v F a b) : ∀ x y, x < N → y < N → upd (mixF v F a b) a b u x y = mixF v F a (b + 1) x y := fun x y _ _ => mix_next hu x y
theorem mix_col' {N v x a b : Nat} {M : Int} {F : Nat → Nat → Int} (h : Lens N M F) (hv : v < N) : some (Value.int .i64 (mixF v F a b x v)) = some (.int .i64 (F x v)) := by rw [mix_col h hv]
theorem mix_row' {N v y a b : Nat} {M : Int} {F : Nat → Nat → Int} (h : Lens N M F) (hv : v < N) : some (Value.int .i64 (mixF v F a b v y)) = some (.int .i64 (F v y)) := by rw [mix_row h hv]
theorem mix_row_end {v a N : Nat} {F : Nat → Nat → Int} {x y : Nat} (hy : y < N) : mixF v F a N x y = mixF v F (a + 1) 0 x y := by
  unfold mixF
  by_cases h : x < a ∨ (x = a ∧ y < N)
  · rw [if_pos h, if_pos (by omega)]
  · rw [if_neg h, if_neg (by omega)]
theorem mix_end {v N : Nat} {F : Nat → Nat → Int} {x y : Nat} (hx : x < N) : mixF v F N 0 x y = gF v F x y := by
  unfold mixF; rw [if_pos (by omega)]
theorem mix_start {v : Nat} {F : Nat → Nat → Int} {x y : Nat} : mixF v F 0 0 x y = F x y := by
  unfold mixF; rw [if_neg (by omega)]
theorem gF_lens {N v : Nat} {M : Int} {F : Nat → Nat → Int} (h : Lens N M F) (hM : 0 ≤ M) (hv : v < N) : Lens N (2 * M) (gF v F) := by
  refine ⟨fun x hx => ?_, fun x y hx hy => ?_⟩
  · unfold gF
    have h0 := h.1 x hx
    split
    · rename_i e
      have a := h.2 x v hx hv; have b := h.2 v x hv hx
      rw [h0]; exact shortS_self (by omega) (by omega)
    · exact h0
  · have c := h.2 x y hx hy
    unfold gF
    split
    · rename_i e
      have a := h.2 x v hx hv; have b := h.2 v y hv hy
      unfold shortS; split <;> omega
    · omega
def fwF (F : Nat → Nat → Int) : Nat → Nat → Nat → Int
  | 0 => F
  | v + 1 => gF v (fwF F v)
theorem fw_lens {N : Nat} {M : Int} {F : Nat → Nat → Int} (h : Lens N M F) (hM : 0 ≤ M) : ∀ v, v ≤ N → Lens N (M * 2 ^ v) (fwF F v) := by
  intro v
  induction v with
  | zero => intro _; show Lens N (M * 2 ^ 0) F; simpa using h
  | succ v ih =>
    intro hv
    have := gF_lens (ih (by omega)) (Int.mul_nonneg hM (Int.pow_nonneg (by decide))) (show v < N by omega)
    rw [Int.pow_succ]
    have e : M * (2 ^ v * 2) = 2 * (M * 2 ^ v) := by rw [← Int.mul_assoc, Int.mul_comm]
    rw [e]; exact this
theorem fw_lens12 {N : Nat} {F : Nat → Nat → Int} (h : Lens N 10000 F) (hN : N ≤ 12) {v : Nat} (hv : v ≤ N) : Lens N 40960000 (fwF F v) := by
  have h1 := fw_lens h (by omega) v hv
  refine ⟨h1.1, fun x y hx hy => ⟨(h1.2 x y hx hy).1, Int.le_trans (h1.2 x y hx hy).2 ?_⟩⟩
  have : (2 : Int) ^ v ≤ 4096 := by
    have : v = 0 ∨ v = 1 ∨ v = 2 ∨ v = 3 ∨ v = 4 ∨ v = 5 ∨ v = 6 ∨ v = 7 ∨ v = 8 ∨ v = 9 ∨ v = 10 ∨ v = 11 ∨ v = 12 := by omega
    rcases this with rfl | rfl | rfl | rfl | rfl | rfl | rfl | rfl | rfl | rfl | rfl | rfl | rfl <;> decide
  omega
end Go.Proofs.YtebinaopncclgabGreatDoor
namespace Go.Proofs.YtebinaopncclgabGreatDoor
open Go.RowKit Go.IntWalk

set_option maxRecDepth 100000 in
set_option maxHeartbeats 2000000 in
theorem join_any (nb N : Nat) (F : Nat → Nat → Int) (w : World) (h : NetAt w nb N F) (hL : Lens N 10000 F) :
    Calls Tryz.prog 84 #[.pointer (some ⟨nb, 0, none⟩)] w fun e w' => e = .returned (.tuple #[]) ∧ NetAt w' nb N (fwF F N) ∧ Only nb w w' := by
  have hN := h.2.2.1
  have H := hide' h
  have HL := hide' hL
  clear h hL
  go_enter Tryz.func84, Tryz.ntmps84
  go_wp2
  go_loopw [2, 3, 4] (fun i _ _ wr => ∃ v : Nat, i = .int .i64 v ∧ v ≤ N ∧ Hid (NetAt wr nb N (fwF F v)) ∧ Hid (Only nb w wr)) (fun i _ _ _ => N - (intOf i).toNat)
  case atStart => exact ⟨0, rfl, by omega, H, Only.refl _ _⟩
  case round =>
    clear H
    obtain ⟨v, rfl, hv, HI, HO⟩ := hrel
    have c0 := HI.out.2.1
    by_cases hlv : v < N
    · have HLv : Hid (Lens N 40960000 (fwF F v)) := fw_lens12 HL.out hN hv
      have HE : Hid (fwF F (v + 1) = gF v (fwF F v)) := rfl
      generalize fwF F v = E at *
      have hv12 : v < 12 := by omega
      go_wp2
      go_loopw [3, 4] (fun i _ wr => ∃ a : Nat, i = .int .i64 a ∧ a ≤ N ∧ Hid (NetAt wr nb N (mixF v E a 0)) ∧ Hid (Only nb w wr)) (fun i _ _ => N - (intOf i).toNat)
      case atStart => exact ⟨0, rfl, by omega, net_congr HI.out (fun x y _ _ => mix_start.symm), HO⟩
      case round =>
        clear HI HO c0
        obtain ⟨a, rfl, ha, HI, HO⟩ := hrel
        have c0 := HI.out.2.1
        by_cases hla : a < N
        · have ha12 : a < 12 := by omega
          go_wp2
          go_loopw [4] (fun i wr => ∃ b : Nat, i = .int .i64 b ∧ b ≤ N ∧ Hid (NetAt wr nb N (mixF v E a b)) ∧ Hid (Only nb w wr)) (fun i _ => N - (intOf i).toNat)
          case atStart => exact ⟨0, rfl, by omega, HI, HO⟩
          case round =>
            clear HI HO c0
            obtain ⟨b, rfl, hb, HI, HO⟩ := hrel
            have c0 := HI.out.2.1
            by_cases hlb : b < N
            · have hb12 : b < 12 := by omega
              have c1 : wr.cell? ⟨nb, 1 + a * 12 + v, none⟩ = some (.int .i64 (E a v)) := by rw [HI.out.2.2.2 a v hla hlv, mix_col HLv.out hlv]
              have c2 : wr.cell? ⟨nb, 1 + v * 12 + b, none⟩ = some (.int .i64 (E v b)) := by rw [HI.out.2.2.2 v b hlv hlb, mix_row HLv.out hlv]
              have l1 := HLv.out.2 a v hla hlv
              have l2 := HLv.out.2 v b hlv hlb
              by_cases e1 : E a v = -1
              · have b1 : (E a v != -1) = false := by simp [e1]
                have HX : Hid (E a b = gF v E a b) := by show _ = _; unfold gF; rw [if_neg (by omega)]
                clear e1 c2
                go_wp2
                go_roundw
                case rel => exact ⟨b + 1, by go_num, by omega, net_congr HI.out (fun x y _ _ => mix_same HX.out x y), HO⟩
                case measure => simp [intOf]; omega
              · have b1 : (E a v != -1) = true := by simp [e1]
                by_cases e2 : E v b = -1
                · have b2 : (E v b != -1) = false := by simp [e2]
                  have HX : Hid (E a b = gF v E a b) := by show _ = _; unfold gF; rw [if_neg (by omega)]
                  clear e1 e2
                  go_wp2
                  go_roundw
                  case rel => exact ⟨b + 1, by go_num, by omega, net_congr HI.out (fun x y _ _ => mix_same HX.out x y), HO⟩
                  case measure => simp [intOf]; omega
                · have b2 : (E v b != -1) = true := by simp [e2]
                  have HX : Hid (shortS (mixF v E a b a b) (E a v + E v b) = gF v E a b) := by show _ = _; rw [mix_at]; unfold gF; rw [if_pos ⟨e1, e2⟩]
                  have hcon := fun W hW => shorten_any nb N a b (mixF v E a b) (E a v + E v b) W hW hla hlb
                  have HC := hide' hcon
                  clear hcon e1 e2
                  go_wp2_with fail
                  have ia : (0 : Int) ≤ (a : Int) := by omega
                  have ib : (0 : Int) ≤ (b : Int) := by omega
                  have iv : (0 : Int) ≤ (v : Int) := by omega
                  have ja : (a : Int) < 12 := by omega
                  have jb : (b : Int) < 12 := by omega
                  have jv : (v : Int) < 12 := by omega
                  have hw : IntKind.i64.wrap (E a v + E v b) = E a v + E v b := i64_in _ (by omega)
                  go_region_held3 (fun w' => w'.cell? ⟨nb, 1 + a * 12 + v, none⟩ = some (.int .i64 (E a v)) ∧ w'.cell? ⟨nb, 1 + v * 12 + b, none⟩ = some (.int .i64 (E v b))) (go_keep)
                    (first
                      | (go_at_call 83; refine (HC.out _ (by exact net_other HI.out rfl)).mono ?_; rintro e w2 ⟨rfl, hn2, ho2⟩; have hn3 := net_congr hn2 (mix_next' HX.out); have k1 := (hn3.2.2.2 a v hla hlv).trans (mix_col' HLv.out hlv); have k2 := (hn3.2.2.2 v b hlv hlb).trans (mix_row' HLv.out hlv); have HN3 := hide' hn3; have HO3 := hide' ho2; clear hn2 hn3 ho2))
                  clear k1 k2 c1 c2 c0 hw
                  go_wp2
                  go_roundw
                  case rel => exact ⟨b + 1, by go_num, by omega, HN3, HO.out.trans ⟨HO3.out.os, HO3.out.tape, HO3.out.output, HO3.out.size, HO3.out.block⟩⟩
                  case measure => simp [intOf]; omega
            · go_wp2
              go_roundw
              case rel => exact ⟨a + 1, by go_num, by omega, net_congr HI.out (fun x y _ hy => by rw [show b = N by omega]; exact mix_row_end hy), HO⟩
              case measure => simp [intOf]; omega
        · go_wp2
          go_roundw
          case rel => exact ⟨v + 1, by go_num, by omega, net_congr HI.out (fun x y hx _ => by rw [HE.out, show a = N by omega]; exact mix_end hx), HO⟩
          case measure => simp [intOf]; omega
    · have hvN : v = N := by omega
      subst hvN
      go_wp2
      go_end0
      exact ⟨rfl, HI.out, HO.out⟩
end Go.Proofs.YtebinaopncclgabGreatDoor
namespace Go.Proofs.YtebinaopncclgabGreatDoor
open Go.RowKit Go.IntWalk

def roadF (F : Nat → Nat → Int) (s : List Int) : Nat → Nat → Int := upd F (s.getD 0 0).toNat (s.getD 1 0).toNat (shortS (F (s.getD 0 0).toNat (s.getD 1 0).toNat) (s.getD 2 0))
def roadsF (rs : List (List Int)) : Nat → Nat → Int := rs.foldl roadF diagS
def wayF (r : Rd) : Nat → Nat → Int := fwF (roadsF r.roads) r.nodes.toNat
def siteN (r : Rd) (i : Nat) : Nat := ((sites r).getD i 0).toNat

def netZ : Array Value := Array.replicate 145 (.int .i64 0)
theorem zero_net (W : World) : (zeroValue 156).run Tryz.prog W = .ok (.agg netZ) W := by kernel_rfl
theorem netZ_ne : ¬ netZ = #[] := by
  intro h; have := congrArg Array.size h; simp [netZ] at this
theorem netZ_at {o : Nat} (h : o < 145) : netZ[o]? = some (.int .i64 0) := by simp [netZ, h]

theorem net_new {w : World} {N : Nat} (hN : N ≤ 12) {x : Int} (hx : x = N) : NetAt (w.alloc (.cells (netZ.setIfInBounds 0 (.int .i64 x)) 156)) w.heap.size N (fun _ _ => 0) := by
  have hh := heap_alloc_new w (.cells (netZ.setIfInBounds 0 (.int .i64 x)) 156)
  refine ⟨⟨_, hh⟩, ?_, hN, fun a b ha hb => ?_⟩
  · rw [cell_of_row _ _ 0 _ _ _ hh, hx]; simp [netZ]
  · rw [cell_of_row _ _ (1 + a * 12 + b) _ _ _ hh, Array.getElem?_setIfInBounds, if_neg (by omega)]; exact netZ_at (by omega)
theorem diag_lens (N : Nat) : Lens N 10000 diagS := by
  refine ⟨fun x _ => by simp [diagS], fun x y _ _ => ?_⟩
  unfold diagS; split <;> omega
theorem road_lens {N : Nat} {F : Nat → Nat → Int} {a b c : Int} (h : Lens N 10000 F) (ha : 0 ≤ a ∧ a < N) (hb : 0 ≤ b ∧ b < N) (hc : 0 ≤ c ∧ c ≤ 10000) : Lens N 10000 (roadF F [a, b, c]) := by
  have e : ∀ x y, roadF F [a, b, c] x y = if x = a.toNat ∧ y = b.toNat then shortS (F a.toNat b.toNat) c else F x y := fun x y => rfl
  have hab := h.2 a.toNat b.toNat (by omega) (by omega)
  refine ⟨fun x hx => ?_, fun x y hx hy => ?_⟩
  · rw [e]; split
    · rename_i q
      have q1 := q.1; have q2 := q.2
      have h0 := h.1 x hx
      rw [← q1, ← q2, h0]; exact shortS_self (by omega) (by omega)
    · exact h.1 x hx
  · rw [e]; split
    · unfold shortS; split <;> omega
    · exact h.2 x y hx hy
theorem roads_lens {N : Nat} (rs : List (List Int)) (hrs : ∀ s ∈ rs, ∃ a b c, s = [a, b, c] ∧ roadOk a b c (N : Int) = true) : ∀ F, Lens N 10000 F → Lens N 10000 (rs.foldl roadF F) := by
  induction rs with
  | nil => intro F h; exact h
  | cons s t ih =>
    intro F h
    obtain ⟨a, b, c, rfl, hk⟩ := hrs s (by simp)
    have hk := roadOk_iff.1 hk
    exact ih (fun s hs => hrs s (by simp [hs])) _ (road_lens h ⟨by omega, by omega⟩ ⟨by omega, by omega⟩ ⟨by omega, by omega⟩)
theorem roadsF_snoc {rs : List (List Int)} {k : Nat} (h : k < rs.length) : roadsF (rs.take (k + 1)) = roadF (roadsF (rs.take k)) rs[k] := by
  unfold roadsF; rw [List.take_succ_eq_append_getElem h, List.foldl_append]; rfl
theorem sites_range {r : Rd} (h : ∀ z ∈ sites r, 0 ≤ z) : sites r = (List.range (r.stops.length + 1)).map fun i => (siteN r i : Int) := by
  apply List.ext_getElem
  · simp [sites_length]
  · intro i h1 h2
    simp only [List.getElem_map, List.getElem_range, siteN]
    rw [show (sites r).getD i 0 = (sites r)[i] by simp [h1]]
    have := h _ (List.getElem_mem h1); omega
theorem sites_ok {r : Rd} (h : RdOk r) : ∀ z ∈ sites r, 0 ≤ z ∧ z < r.nodes := by
  have hh := headOk_iff.1 h.head
  intro z hz
  simp only [sites, List.mem_cons, List.mem_map] at hz
  rcases hz with rfl | ⟨s, hs, rfl⟩
  · omega
  · obtain ⟨a, b, c, d, e, rfl, hk⟩ := h.stops s hs
    have hk := stopOk_iff.1 hk
    simp; omega
theorem siteN_lt {r : Rd} (h : RdOk r) {N : Nat} (hN : r.nodes = N) {i : Nat} (hi : i < r.stops.length + 1) : siteN r i < N := by
  have hl : i < (sites r).length := by rw [sites_length]; exact hi
  have := sites_ok h _ (List.getElem_mem hl)
  unfold siteN; rw [show (sites r).getD i 0 = (sites r)[i] by simp [hl]]; omega

set_option maxRecDepth 100000 in
set_option maxHeartbeats 2000000 in
theorem between_own (B B' : Nat) (r : Rd) (vs vr : Value) (w : World) (hn : RdOk r) (hs : w.ownsRow B 62 5 vs r.stops.length (ints r.stops.flatten)) (hr : w.ownsRow B' 64 3 vr r.roads.length (ints r.roads.flatten)) :
    Calls Tryz.prog 38 #[inst r vs vr] w fun e w' => ∃ v, e = .returned v ∧ GridO w' w.heap.size v (r.stops.length + 1) (fun i j => wayF r (siteN r i) (siteN r j)) ∧ Below w.heap.size w w' := by
  have hns := hn.nstops
  have hnr := hn.nroads
  have hhd := headOk_iff.1 hn.head
  obtain ⟨aos, caps, rfl, has, hsn⟩ := own_val hs
  obtain ⟨aor, capr, rfl, har, hrn⟩ := own_val hr
  have HS := hide hs
  have HR := hide hr
  have HN := hide hn
  have HAS := hide has
  have HAR := hide har
  have HSN := hide hsn
  have HRN := hide hrn
  have hcF := fun W hW => fault_ok B B' r (.slice aos r.stops.length caps) (.slice aor r.roads.length capr) W hn (own_below hs hW) (own_below hr hW)
  have HCF := hide hcF
  clear hs hr hn has hsn har hrn hcF
  unfold inst at *
  go_enter Tryz.func38, Tryz.ntmps38
  go_wp2_with fail
  refine (HCF.out _ (below1 w _)).mono ?_
  rintro e1 w1 ⟨rfl, hb1⟩
  obtain ⟨hw1, hz1, hbox⟩ := box_facts (w := w) hb1 rfl rfl rfl rfl
  have HW1 := hide hw1
  have HBX := hide hbox
  have d3 : w1.cell? ⟨w.heap.size, 3, none⟩ = some (.int .i64 r.nodes) := hbox 3
  clear hw1 hb1 hbox
  have hzv := zero_net
  have hzn := netZ_ne
  obtain ⟨N, hN⟩ : ∃ N : Nat, r.nodes = N := ⟨r.nodes.toNat, by omega⟩
  have hN12 : N ≤ 12 := by omega
  have HNN := hide hN
  clear hN
  go_wp2_with fail
  refine (clear_any _ N _ _ (net_new hN12 HNN.out)).mono ?_
  rintro e2 w2 ⟨rfl, hn2, ho2⟩
  have HB2 : Hid (Below w1.heap.size w1 w2) := (below1 w1 _).trans (ho2.below (Nat.le_refl _))
  have HN2 := hide hn2
  clear hn2 ho2 d3 hzv hzn
  go_wp2_with fail
  go_loopw [5] (fun i wr => ∃ k : Nat, i = .int .i64 k ∧ k ≤ r.roads.length ∧ Hid (NetAt wr w1.heap.size N (roadsF (r.roads.take k))) ∧ Hid (Below w1.heap.size w1 wr)) (fun i _ => r.roads.length - (intOf i).toNat)
  case atStart => exact ⟨0, rfl, by omega, HN2, HB2⟩
  case round =>
    clear HN2 HB2
    obtain ⟨k, rfl, hk, HI, HB⟩ := hrel
    have hbs := HB.out.size
    have d6 : wr.cell? ⟨w.heap.size, 6, none⟩ = some (.slice aor r.roads.length capr) := (HB.out.cell (by exact hz1)).trans (HBX.out 6)
    have hnl := net_lt HI.out
    by_cases hlt : k < r.roads.length
    · obtain ⟨g, rfl, hgl⟩ := some_of HAR.out HRN.out (by omega)
      obtain ⟨a, b, c, hab, hok⟩ := HN.out.roads _ (List.getElem_mem hlt)
      have hok' := roadOk_iff.1 hok
      have hcl : ∀ j z, j < 3 → r.roads[k][j]? = some z → wr.cell? ⟨g, k * 3 + j, none⟩ = some (.int .i64 z) := by
        intro j z hj hz
        rw [HB.out.cell (p := ⟨g, k * 3 + j, none⟩) (by show g < _; omega), HW1.out.cell (by exact hgl), HR.out.cellAt (k * 3 + j) (by omega)]
        exact flat_ints (fun s hs => (HN.out.nice.roads s hs).1) hlt hj hz
      have HT := roadsF_snoc hlt
      rw [hab] at hcl HT
      obtain ⟨an, rfl⟩ := Int.eq_ofNat_of_zero_le hok'.1.1
      obtain ⟨bn, rfl⟩ := Int.eq_ofNat_of_zero_le hok'.1.2.2.1
      have hnn := HNN.out
      have han : an < N := by omega
      have hbn : bn < N := by omega
      have x0 : wr.cell? ⟨g, k * 3, none⟩ = some (.int .i64 an) := hcl 0 an (by omega) rfl
      have x1 : wr.cell? ⟨g, k * 3 + 1, none⟩ = some (.int .i64 bn) := hcl 1 bn (by omega) rfl
      have x2 : wr.cell? ⟨g, k * 3 + 2, none⟩ = some (.int .i64 c) := hcl 2 c (by omega) rfl
      have HT' := hide HT
      clear hcl hab hok hok' HT hnn
      have hgw : g < wr.heap.size := by omega
      go_wp2_with fail
      refine (shorten_any w1.heap.size N an bn (roadsF (r.roads.take k)) c _ (net_other HI.out (Below.heap_alloc _ _ _ hnl)) han hbn).mono ?_
      rintro e3 w3 ⟨rfl, hn3, ho3⟩
      have HN3 : Hid (NetAt w3 w1.heap.size N (roadsF (r.roads.take (k + 1)))) := by show NetAt _ _ _ _; rw [HT'.out]; exact hn3
      have HB3 : Hid (Below w1.heap.size w1 w3) := (HB.out.alloc hbs _).trans (ho3.below (Nat.le_refl _))
      clear hn3 ho3 x0 x1 x2 d6
      go_wp2
      go_roundw
      case rel => exact ⟨k + 1, by go_num, by omega, HN3, HB3⟩
      case measure => simp [intOf]; omega
    · have hke : k = r.roads.length := by omega
      subst hke
      have HI' : Hid (NetAt wr w1.heap.size N (roadsF r.roads)) := by have := HI.out; rw [List.take_length] at this; exact this
      have HLen : Hid (Lens N 10000 (roadsF r.roads)) := roads_lens r.roads (by rw [← HNN.out]; exact HN.out.roads) _ (diag_lens N)
      go_wp2_with fail
      refine (join_any w1.heap.size N (roadsF r.roads) _ HI'.out HLen.out).mono ?_
      rintro e4 w4 ⟨rfl, hn4, ho4⟩
      have HB4 : Hid (Below w1.heap.size w1 w4) := HB.out.trans (ho4.below (Nat.le_refl _))
      have HN4 := hide hn4
      have hb4 := HB4.out.size
      have f0 : w4.cell? ⟨w.heap.size, 0, none⟩ = some (.int .i64 r.vans) := (HB4.out.cell (by exact hz1)).trans (HBX.out 0)
      have f1 : w4.cell? ⟨w.heap.size, 1, none⟩ = some (.int .i64 r.load) := (HB4.out.cell (by exact hz1)).trans (HBX.out 1)
      have f2 : w4.cell? ⟨w.heap.size, 2, none⟩ = some (.int .i64 r.close) := (HB4.out.cell (by exact hz1)).trans (HBX.out 2)
      have f3 : w4.cell? ⟨w.heap.size, 3, none⟩ = some (.int .i64 r.nodes) := (HB4.out.cell (by exact hz1)).trans (HBX.out 3)
      have f4 : w4.cell? ⟨w.heap.size, 4, none⟩ = some (.int .i64 r.home) := (HB4.out.cell (by exact hz1)).trans (HBX.out 4)
      have f5 : w4.cell? ⟨w.heap.size, 5, none⟩ = some (.slice aos r.stops.length caps) := (HB4.out.cell (by exact hz1)).trans (HBX.out 5)
      have f6 : w4.cell? ⟨w.heap.size, 6, none⟩ = some (.slice aor r.roads.length capr) := (HB4.out.cell (by exact hz1)).trans (HBX.out 6)
      have HWW : Hid (Below w.heap.size w w4) := HW1.out.trans (HB4.out.mono (by omega))
      clear hn4 ho4 HI HB hbs d6 HI'
      go_wp2_with fail
      refine (siteNodes_any B B' r (.slice aos r.stops.length caps) (.slice aor r.roads.length capr) w4 HN.out.nice (own_below HS.out HWW.out) (own_below HR.out HWW.out)).mono ?_
      rintro e5 w5 ⟨v5, rfl, ho5, hb5⟩
      obtain ⟨g5, c5, cur5, rfl, _, _, _⟩ := own_shape ho5 (by omega)
      have hss := ho5
      rw [sites_range (fun z hz => (sites_ok HN.out z hz).1)] at hss
      have HSS := hide hss
      have HN5 : Hid (NetAt w5 w1.heap.size N (fwF (roadsF r.roads) N)) := net_other HN4.out (hb5.block _ (net_lt HN4.out))
      have HW5 : Hid (Below w.heap.size w w5) := HWW.out.trans (hb5.mono HWW.out.size)
      clear ho5 hb5 hss f0 f1 f2 f3 f4 f5 f6
      go_wp2_with fail
      refine (table_own w1.heap.size N (r.stops.length + 1) g5 c5 _ (fwF (roadsF r.roads) N) (siteN r) w5 HN5.out (by omega) (by omega) (fun i hi => siteN_lt HN.out HNN.out hi) HSS.out).mono ?_
      rintro e6 w6 ⟨v6, rfl, hg6, hb6⟩
      have HG6 := hide hg6
      have HB6 := hide hb6
      obtain ⟨g7, _, rfl, _⟩ := hg6
      clear hb6
      go_wp2
      go_ret
      refine ⟨_, rfl, ?_, HW5.out.trans (HB6.out.mono HW5.out.size)⟩
      have e : wayF r = fwF (roadsF r.roads) N := by unfold wayF; rw [HNN.out]; rfl
      rw [e]; exact HG6.out.base HW5.out.size
theorem between_any (B B' : Nat) (r : Rd) (vs vr : Value) (w : World) (hn : RdOk r) (hs : w.ownsRow B 62 5 vs r.stops.length (ints r.stops.flatten)) (hr : w.ownsRow B' 64 3 vr r.roads.length (ints r.roads.flatten)) :
    Calls Tryz.prog 38 #[inst r vs vr] w fun e w' => ∃ v, e = .returned v ∧ Grid w' w.heap.size v (r.stops.length + 1) (fun i j => wayF r (siteN r i) (siteN r j)) ∧ Below w.heap.size w w' :=
  (between_own B B' r vs vr w hn hs hr).mono fun _ _ ⟨v, h1, h2, h3⟩ => ⟨v, h1, h2.grid, h3⟩
end Go.Proofs.YtebinaopncclgabGreatDoor
