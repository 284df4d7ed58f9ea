/- Walks of the document's answer: may all numbers of an instance be? (of any instance) -/
import Derived.Test.YtebinaopncclgaaGreatDoorFaultZ
namespace Go.Proofs.YtebinaopncclgaaGreatDoor
open Go.RowKit Go.IntWalk

def sFineW (a b c d e n : Int) : Bool := if n = -9223372036854775808 then pairsS [0, a, a, wrap64 (-9223372036854775809), 0, b, b, 10000, 0, c, c, d, d, 10000, 0, e, e, 10000] 9 else stopOk a b c d e n
def rFineW (a b c n : Int) : Bool := if n = -9223372036854775808 then pairsS [0, a, a, wrap64 (-9223372036854775809), 0, b, b, wrap64 (-9223372036854775809), 0, c, c, 10000] 6 else roadOk a b c n

set_option maxRecDepth 100000 in
set_option maxHeartbeats 1000000 in
theorem headFine_w (v l c n h : Int) (vs vr : Value) (w : World) (hn : -9223372036854775808 ≤ n ∧ n ≤ 9223372036854775807) :
    Calls Tryz.prog 108 #[.agg #[.int .i64 v, .int .i64 l, .int .i64 c, .int .i64 n, .int .i64 h, vs, vr]] w fun e w' => e = .returned (.bool (headOk v l c n h)) ∧ Below w.heap.size w w' := by
  by_cases h0 : n = -9223372036854775808
  · subst h0
    go_enter Tryz.func108, Tryz.ntmps108
    go_wp2_with fail
    refine (between_walk (w.heap.size + 1) 10 20 20 [1, v, v, 3, 0, l, l, 10000, 0, c, c, 10000, 1, -9223372036854775808, -9223372036854775808, 12, 0, h, h, wrap64 (-9223372036854775809)] _ rfl (by omega) (by simp) (cells_of [1, v, v, 3, 0, l, l, 10000, 0, c, c, 10000, 1, -9223372036854775808, -9223372036854775808, 12, 0, h, h, wrap64 (-9223372036854775809)] (t := 3) (new_second _ _ _))).mono ?_
    rintro e1 w1 ⟨rfl, hb1⟩
    have HX : Hid (pairsS [1, v, v, 3, 0, l, l, 10000, 0, c, c, 10000, 1, -9223372036854775808, -9223372036854775808, 12, 0, h, h, wrap64 (-9223372036854775809)] 10 = headOk v l c (-9223372036854775808) h) := by
      show _ = _
      rw [pairs_no (k := 6) (by omega) (by simp), headOk_no (by omega)]
    rw [HX.out]
    have HB : Hid (Below w.heap.size w w1) := (below2 w _ _).trans (hb1.mono (by simp; omega))
    clear hb1
    go_wp2
    go_ret
    exact ⟨rfl, HB.out⟩
  · exact headFine_any v l c n h vs vr w (by omega)
set_option maxRecDepth 100000 in
set_option maxHeartbeats 1000000 in
theorem stopFine_w (a b c d e n : Int) (w : World) (hn : -9223372036854775808 ≤ n ∧ n ≤ 9223372036854775807) :
    Calls Tryz.prog 109 #[.agg #[.int .i64 a, .int .i64 b, .int .i64 c, .int .i64 d, .int .i64 e], .int .i64 n] w fun r w' => r = .returned (.bool (sFineW a b c d e n)) ∧ Below w.heap.size w w' := by
  by_cases h0 : n = -9223372036854775808
  · subst h0
    unfold sFineW
    rw [if_pos rfl]
    go_enter Tryz.func109, Tryz.ntmps109
    go_wp2_with fail
    refine (between_walk (w.heap.size + 1) 9 18 18 [0, a, a, wrap64 (-9223372036854775809), 0, b, b, 10000, 0, c, c, d, d, 10000, 0, e, e, 10000] _ rfl (by omega) (by simp) (cells_of [0, a, a, wrap64 (-9223372036854775809), 0, b, b, 10000, 0, c, c, d, d, 10000, 0, e, e, 10000] (t := 3) (new_second _ _ _))).mono ?_
    rintro e1 w1 ⟨rfl, hb1⟩
    have HB : Hid (Below w.heap.size w w1) := (below2 w _ _).trans (hb1.mono (by simp; omega))
    clear hb1
    go_wp2
    go_ret
    exact ⟨rfl, HB.out⟩
  · unfold sFineW; rw [if_neg h0]; exact stopFine_any a b c d e n w (by omega)
set_option maxRecDepth 100000 in
set_option maxHeartbeats 1000000 in
theorem roadFine_w (a b c n : Int) (w : World) (hn : -9223372036854775808 ≤ n ∧ n ≤ 9223372036854775807) :
    Calls Tryz.prog 110 #[.agg #[.int .i64 a, .int .i64 b, .int .i64 c], .int .i64 n] w fun e w' => e = .returned (.bool (rFineW a b c n)) ∧ Below w.heap.size w w' := by
  by_cases h0 : n = -9223372036854775808
  · subst h0
    unfold rFineW
    rw [if_pos rfl]
    go_enter Tryz.func110, Tryz.ntmps110
    go_wp2_with fail
    refine (between_walk (w.heap.size + 1) 6 12 12 [0, a, a, wrap64 (-9223372036854775809), 0, b, b, wrap64 (-9223372036854775809), 0, c, c, 10000] _ rfl (by omega) (by simp) (cells_of [0, a, a, wrap64 (-9223372036854775809), 0, b, b, wrap64 (-9223372036854775809), 0, c, c, 10000] (t := 3) (new_second _ _ _))).mono ?_
    rintro e1 w1 ⟨rfl, hb1⟩
    have HB : Hid (Below w.heap.size w w1) := (below2 w _ _).trans (hb1.mono (by simp; omega))
    clear hb1
    go_wp2
    go_ret
    exact ⟨rfl, HB.out⟩
  · unfold rFineW; rw [if_neg h0]; exact roadFine_any a b c n w (by omega)

def sOkW (S : Nat → Nat → Int) (N : Int) (i : Nat) : Bool := sFineW (S i 0) (S i 1) (S i 2) (S i 3) (S i 4) N
def rOkW (T : Nat → Nat → Int) (N : Int) (i : Nat) : Bool := rFineW (T i 0) (T i 1) (T i 2) N
theorem whole_end {X0 X1 X2 X3 X4 : Int} {S T : Nat → Nat → Int} {n m : Nat} (h : ¬ (7 < n ∨ 40 < m)) :
    faultS X0 X1 X2 X3 X4 S T n m = if ((headOk X0 X1 X2 X3 X4 && allN (sOkW S X3) n) && allN (rOkW T X3) m) = true then 0 else 4 := by
  unfold faultS; rw [if_neg h]
  cases hh : headOk X0 X1 X2 X3 X4
  · simp
  · have h3 : X3 ≠ -9223372036854775808 := by have := headOk_nodes hh; omega
    have e1 : sOkW S X3 = sOk S X3 := by funext i; unfold sOkW sOk sFineW; rw [if_neg h3]
    have e2 : rOkW T X3 = rOk T X3 := by funext i; unfold rOkW rOk rFineW; rw [if_neg h3]
    rw [e1, e2]

set_option maxRecDepth 100000 in
set_option maxHeartbeats 2000000 in
theorem whole_any (X0 X1 X2 X3 X4 : Int) (S T : Nat → Nat → Int) (aos aor : Option Addr) (n m caps capr : Nat) (w : World) (hX : -9223372036854775808 ≤ X3 ∧ X3 ≤ 9223372036854775807) (hn : n ≤ 9223372036854775807) (hm : m ≤ 9223372036854775807) (hs : Lies w aos n 5 S) (hr : Lies w aor m 3 T) :
    Calls Tryz.prog 65 #[.agg #[.int .i64 X0, .int .i64 X1, .int .i64 X2, .int .i64 X3, .int .i64 X4, .slice aos n caps, .slice aor m capr]] w fun e w' => e = .returned (.int .i64 (faultS X0 X1 X2 X3 X4 S T n m)) ∧ Below w.heap.size w w' := by
  have HS := hid hs
  have HR := hid hr
  clear hs hr
  by_cases h7 : 7 < n
  · rw [fault_many (Or.inl h7)]
    go_enter Tryz.func65, Tryz.ntmps65
    go_wp2
    go_ret
    exact ⟨rfl, below1 _ _⟩
  · by_cases h40 : 40 < m
    · rw [fault_many (Or.inr h40)]
      go_enter Tryz.func65, Tryz.ntmps65
      go_wp2
      go_ret
      exact ⟨rfl, below1 _ _⟩
    · have HN : Hid (¬ (7 < n ∨ 40 < m)) := by show ¬ _; omega
      go_enter Tryz.func65, Tryz.ntmps65
      go_wp2_with fail
      refine (headFine_w _ _ _ _ _ _ _ _ hX).mono ?_
      rintro e1 w1 ⟨rfl, hb1⟩
      obtain ⟨hw1, hz1, hbox⟩ := box_facts (w := w) hb1 rfl rfl rfl rfl
      have HW1 := hide hw1
      have HBX : Hid (w1.cell? ⟨w.heap.size, 3, none⟩ = some (.int .i64 X3) ∧ w1.cell? ⟨w.heap.size, 5, none⟩ = some (.slice aos n caps) ∧ w1.cell? ⟨w.heap.size, 6, none⟩ = some (.slice aor m capr)) := ⟨hbox 3, hbox 5, hbox 6⟩
      clear hw1 hb1 hbox
      generalize hh : headOk X0 X1 X2 X3 X4 = hd
      have HHD := hid hh
      clear hh
      go_wp2_with fail
      go_loopw [3, 4] (fun al i wr => ∃ (k : Nat) (A : Bool), i = .int .i64 k ∧ al = .bool A ∧ k ≤ n ∧ Hid (Below w1.heap.size w1 wr) ∧ Hid (A = (hd && allN (sOkW S X3) k))) (fun _ i _ => n - (intOf i).toNat)
      case atStart => exact ⟨0, hd, rfl, rfl, by omega, Below.refl _ _, by show _ = _; simp [allN]⟩
      case round =>
        obtain ⟨k, A, rfl, rfl, hk, HB, HA⟩ := hrel
        have hbs := HB.out.size
        have d3 : wr.cell? ⟨w.heap.size, 3, none⟩ = some (.int .i64 X3) := (HB.out.cell (by exact hz1)).trans HBX.out.1
        have d5 : wr.cell? ⟨w.heap.size, 5, none⟩ = some (.slice aos n caps) := (HB.out.cell (by exact hz1)).trans HBX.out.2.1
        by_cases hlt : k < n
        · obtain ⟨g, o, rfl, hgl, hc⟩ := HS.out (by omega)
          have hcl : ∀ j, j < 5 → wr.cell? ⟨g, o + k * 5 + j, none⟩ = some (.int .i64 (S k j)) := fun j hj => by
            rw [HB.out.cell (p := ⟨g, o + k * 5 + j, none⟩) (by show g < _; omega), HW1.out.cell (by exact hgl)]; exact hc k j hlt hj
          have x0 : wr.cell? ⟨g, o + k * 5, none⟩ = some (.int .i64 (S k 0)) := hcl 0 (by omega)
          have x1 : wr.cell? ⟨g, o + k * 5 + 1, none⟩ = some (.int .i64 (S k 1)) := hcl 1 (by omega)
          have x2 : wr.cell? ⟨g, o + k * 5 + 2, none⟩ = some (.int .i64 (S k 2)) := hcl 2 (by omega)
          have x3 : wr.cell? ⟨g, o + k * 5 + 3, none⟩ = some (.int .i64 (S k 3)) := hcl 3 (by omega)
          have x4 : wr.cell? ⟨g, o + k * 5 + 4, none⟩ = some (.int .i64 (S k 4)) := hcl 4 (by omega)
          clear hcl hc
          have HK : Hid (allN (sOkW S X3) (k + 1) = (allN (sOkW S X3) k && sFineW (S k 0) (S k 1) (S k 2) (S k 3) (S k 4) X3)) := allN_succ _ _
          generalize S k 0 = a at *
          generalize S k 1 = b at *
          generalize S k 2 = c at *
          generalize S k 3 = d at *
          generalize S k 4 = e at *
          have ik : (0 : Int) ≤ (k : Int) := by omega
          have jk : (k : Int) < (n : Int) := by omega
          have hgw : g < wr.heap.size := by omega
          have hxw : w.heap.size < wr.heap.size := by omega
          go_wp2_with fail
          go_region_held3 (fun w' => w'.cell? ⟨w.heap.size, 3, none⟩ = some (.int .i64 X3) ∧ w'.cell? ⟨w.heap.size, 5, none⟩ = some (.slice (some ⟨g, o, none⟩) n caps) ∧ w'.cell? ⟨g, o + k * 5, none⟩ = some (.int .i64 a) ∧ w'.cell? ⟨g, o + k * 5 + 1, none⟩ = some (.int .i64 b) ∧ w'.cell? ⟨g, o + k * 5 + 2, none⟩ = some (.int .i64 c) ∧ w'.cell? ⟨g, o + k * 5 + 3, none⟩ = some (.int .i64 d) ∧ w'.cell? ⟨g, o + k * 5 + 4, none⟩ = some (.int .i64 e)) (go_keep)
            (first
              | (go_at_call 109; refine (stopFine_w _ _ _ _ _ _ _ hX).mono ?_; rintro e2 w2 ⟨rfl, hb2⟩; have hw2 : Below wr.heap.size wr w2 := ⟨hb2.os, hb2.tape, hb2.output, hb2.size, hb2.block⟩; have k3 := (hw2.cell (p := ⟨w.heap.size, 3, none⟩) (by exact hxw)).trans d3; have k5 := (hw2.cell (p := ⟨w.heap.size, 5, none⟩) (by exact hxw)).trans d5; have m0 := (hw2.cell (p := ⟨g, o + k * 5, none⟩) (by exact hgw)).trans x0; have m1 := (hw2.cell (p := ⟨g, o + k * 5 + 1, none⟩) (by exact hgw)).trans x1; have m2 := (hw2.cell (p := ⟨g, o + k * 5 + 2, none⟩) (by exact hgw)).trans x2; have m3 := (hw2.cell (p := ⟨g, o + k * 5 + 3, none⟩) (by exact hgw)).trans x3; have m4 := (hw2.cell (p := ⟨g, o + k * 5 + 4, none⟩) (by exact hgw)).trans x4; have HW2 := hide hw2; clear hw2 hb2))
          clear x0 x1 x2 x3 x4 k3 k5 m0 m1 m2 m3 m4 d3 d5
          generalize sFineW a b c d e X3 = F at *
          have HA' : Hid ((A && F) = (hd && allN (sOkW S X3) (k + 1))) := by show _ = _; rw [HK.out, HA.out, Bool.and_assoc]
          cases A
          · go_wp2
            go_roundw
            case rel => exact ⟨k + 1, false, by go_num, rfl, by omega, HB.out.trans (HW2.out.mono hbs), HA'⟩
            case measure => simp [intOf]; omega
          · go_wp2
            go_roundw
            case rel => exact ⟨k + 1, F, by go_num, rfl, by omega, HB.out.trans (HW2.out.mono hbs), HA'⟩
            case measure => simp [intOf]; omega
        · have hkn : k = n := by omega
          subst hkn
          go_wp2_with fail
          go_loopw [3, 6] (fun al i wr => ∃ (p : Nat) (C : Bool), i = .int .i64 p ∧ al = .bool C ∧ p ≤ m ∧ Hid (Below w1.heap.size w1 wr) ∧ Hid (C = (A && allN (rOkW T X3) p))) (fun _ i _ => m - (intOf i).toNat)
          case atStart => exact ⟨0, A, rfl, rfl, by omega, HB, by show _ = _; simp [allN]⟩
          case round =>
            clear HB hbs d3 d5
            obtain ⟨p, C, rfl, rfl, hp, HB, HC⟩ := hrel
            have hbs := HB.out.size
            have d3 : wr.cell? ⟨w.heap.size, 3, none⟩ = some (.int .i64 X3) := (HB.out.cell (by exact hz1)).trans HBX.out.1
            have d6 : wr.cell? ⟨w.heap.size, 6, none⟩ = some (.slice aor m capr) := (HB.out.cell (by exact hz1)).trans HBX.out.2.2
            by_cases hlp : p < m
            · obtain ⟨g, o, rfl, hgl, hc⟩ := HR.out (by omega)
              have hcl : ∀ j, j < 3 → wr.cell? ⟨g, o + p * 3 + j, none⟩ = some (.int .i64 (T p j)) := fun j hj => by
                rw [HB.out.cell (p := ⟨g, o + p * 3 + j, none⟩) (by show g < _; omega), HW1.out.cell (by exact hgl)]; exact hc p j hlp hj
              have x0 : wr.cell? ⟨g, o + p * 3, none⟩ = some (.int .i64 (T p 0)) := hcl 0 (by omega)
              have x1 : wr.cell? ⟨g, o + p * 3 + 1, none⟩ = some (.int .i64 (T p 1)) := hcl 1 (by omega)
              have x2 : wr.cell? ⟨g, o + p * 3 + 2, none⟩ = some (.int .i64 (T p 2)) := hcl 2 (by omega)
              clear hcl hc
              have HK : Hid (allN (rOkW T X3) (p + 1) = (allN (rOkW T X3) p && rFineW (T p 0) (T p 1) (T p 2) X3)) := allN_succ _ _
              generalize T p 0 = a at *
              generalize T p 1 = b at *
              generalize T p 2 = c at *
              have ik : (0 : Int) ≤ (p : Int) := by omega
              have jk : (p : Int) < (m : Int) := by omega
              have hgw : g < wr.heap.size := by omega
              have hxw : w.heap.size < wr.heap.size := by omega
              go_wp2_with fail
              go_region_held3 (fun w' => w'.cell? ⟨w.heap.size, 3, none⟩ = some (.int .i64 X3) ∧ w'.cell? ⟨w.heap.size, 6, none⟩ = some (.slice (some ⟨g, o, none⟩) m capr) ∧ w'.cell? ⟨g, o + p * 3, none⟩ = some (.int .i64 a) ∧ w'.cell? ⟨g, o + p * 3 + 1, none⟩ = some (.int .i64 b) ∧ w'.cell? ⟨g, o + p * 3 + 2, none⟩ = some (.int .i64 c)) (go_keep)
                (first
                  | (go_at_call 110; refine (roadFine_w _ _ _ _ _ hX).mono ?_; rintro e2 w2 ⟨rfl, hb2⟩; have hw2 : Below wr.heap.size wr w2 := ⟨hb2.os, hb2.tape, hb2.output, hb2.size, hb2.block⟩; have k3 := (hw2.cell (p := ⟨w.heap.size, 3, none⟩) (by exact hxw)).trans d3; have k6 := (hw2.cell (p := ⟨w.heap.size, 6, none⟩) (by exact hxw)).trans d6; have m0 := (hw2.cell (p := ⟨g, o + p * 3, none⟩) (by exact hgw)).trans x0; have m1 := (hw2.cell (p := ⟨g, o + p * 3 + 1, none⟩) (by exact hgw)).trans x1; have m2 := (hw2.cell (p := ⟨g, o + p * 3 + 2, none⟩) (by exact hgw)).trans x2; have HW2 := hide hw2; clear hw2 hb2))
              clear x0 x1 x2 k3 k6 m0 m1 m2 d3 d6
              generalize rFineW a b c X3 = F at *
              have HC' : Hid ((C && F) = (A && allN (rOkW T X3) (p + 1))) := by show _ = _; rw [HK.out, HC.out, Bool.and_assoc]
              cases C
              · go_wp2
                go_roundw
                case rel => exact ⟨p + 1, false, by go_num, rfl, by omega, HB.out.trans (HW2.out.mono hbs), HC'⟩
                case measure => simp [intOf]; omega
              · go_wp2
                go_roundw
                case rel => exact ⟨p + 1, F, by go_num, rfl, by omega, HB.out.trans (HW2.out.mono hbs), HC'⟩
                case measure => simp [intOf]; omega
            · have hpm : p = m := by omega
              subst hpm
              have HF : Hid (faultS X0 X1 X2 X3 X4 S T k p = if C = true then 0 else 4) := by
                show _ = _
                rw [whole_end HN.out, HC.out, HA.out, HHD.out]
              cases C
              · go_wp2
                go_ret
                exact ⟨ret_int HF.out.symm, HW1.out.trans (HB.out.mono (by omega))⟩
              · go_wp2
                go_ret
                exact ⟨ret_int HF.out.symm, HW1.out.trans (HB.out.mono (by omega))⟩
end Go.Proofs.YtebinaopncclgaaGreatDoor
