/- Walks: any instance is printed. -/
import Derived.Test.YtebinaopncclgaaGreatDoorWholeZ
import Derived.Test.YtebinaopncclgaaGreatDoorDecZ
import Derived.Test.YtebinaopncclgaaGreatDoorPlainG
namespace Go.Proofs.YtebinaopncclgaaGreatDoor
open Go.RowKit Go.IntWalk

def row5 (S : Nat → Nat → Int) (i : Nat) : List Int := [S i 0, S i 1, S i 2, S i 3, S i 4]
def row3 (S : Nat → Nat → Int) (i : Nat) : List Int := [S i 0, S i 1, S i 2]
def stopsZ (S : Nat → Nat → Int) (n : Nat) : List UInt8 := stopsL ((List.range n).map (row5 S))
def roadsZ (S : Nat → Nat → Int) (n : Nat) : List UInt8 := roadsL ((List.range n).map (row3 S))
def textZ (X0 X1 X2 X3 X4 : Int) (S T : Nat → Nat → Int) (n m : Nat) : List UInt8 := (lineL [68] [X0, X1, X2, X3, X4] ++ stopsZ S n) ++ roadsZ T m
theorem stopsZ_snoc (S : Nat → Nat → Int) (k : Nat) : stopsZ S (k + 1) = stopsZ S k ++ lineL [83] [S k 0, S k 1, S k 2, S k 3, S k 4] := by
  simp [stopsZ, stopsL, List.range_succ, row5]
theorem roadsZ_snoc (S : Nat → Nat → Int) (k : Nat) : roadsZ S (k + 1) = roadsZ S k ++ lineL [82] [S k 0, S k 1, S k 2] := by
  simp [roadsZ, roadsL, List.range_succ, row3]
theorem allN_at {p : Nat → Bool} {n i : Nat} (h : allN p n = true) (hi : i < n) : p i = true := List.all_eq_true.1 h i (by simpa using hi)
theorem good_parts {X0 X1 X2 X3 X4 : Int} {S T : Nat → Nat → Int} {n m : Nat} (h : faultS X0 X1 X2 X3 X4 S T n m = 0) :
    n ≤ 7 ∧ m ≤ 40 ∧ (∀ z ∈ [X0, X1, X2, X3, X4], small z) ∧ (∀ i, i < n → ∀ z ∈ [S i 0, S i 1, S i 2, S i 3, S i 4], small z) ∧ ∀ i, i < m → ∀ z ∈ [T i 0, T i 1, T i 2], small z := by
  unfold faultS at h
  split at h
  · cases h
  · rename_i hnm
    split at h
    · rename_i hall
      simp only [Bool.and_eq_true] at hall
      obtain ⟨⟨h1, h2⟩, h3⟩ := hall
      have hh := headOk_iff.1 h1
      refine ⟨by omega, by omega, ?_, fun i hi => ?_, fun i hi => ?_⟩
      · intro z hz; simp only [List.mem_cons, List.not_mem_nil, or_false] at hz; unfold small; omega
      · have hk := stopOk_iff.1 (allN_at h2 hi)
        intro z hz; simp only [List.mem_cons, List.not_mem_nil, or_false] at hz; unfold small; omega
      · have hk := roadOk_iff.1 (allN_at h3 hi)
        intro z hz; simp only [List.mem_cons, List.not_mem_nil, or_false] at hz; unfold small; omega
    · cases h
theorem cells5 {f : Nat → Option Value} {a b c d e : Int} (h0 : f 0 = some (.int .i64 a)) (h1 : f 1 = some (.int .i64 b)) (h2 : f 2 = some (.int .i64 c)) (h3 : f 3 = some (.int .i64 d)) (h4 : f 4 = some (.int .i64 e)) : ∀ i, i < 5 → f i = some (.int .i64 ([a, b, c, d, e].getD i 0)) := by
  intro i hi
  match i, hi with
  | 0, _ => exact h0
  | 1, _ => exact h1
  | 2, _ => exact h2
  | 3, _ => exact h3
  | 4, _ => exact h4
theorem cells3 {f : Nat → Option Value} {a b c : Int} (h0 : f 0 = some (.int .i64 a)) (h1 : f 1 = some (.int .i64 b)) (h2 : f 2 = some (.int .i64 c)) : ∀ i, i < 3 → f i = some (.int .i64 ([a, b, c].getD i 0)) := by
  intro i hi
  match i, hi with
  | 0, _ => exact h0
  | 1, _ => exact h1
  | 2, _ => exact h2

set_option maxRecDepth 100000 in
set_option maxHeartbeats 4000000 in
theorem rprint_good (X0 X1 X2 X3 X4 : Int) (S T : Nat → Nat → Int) (aos aor : Option Addr) (n m caps capr : Nat) (w : World) (hX : -9223372036854775808 ≤ X3 ∧ X3 ≤ 9223372036854775807) (hok : faultS X0 X1 X2 X3 X4 S T n m = 0) (hs : Lies w aos n 5 S) (hr : Lies w aor m 3 T) :
    Calls Tryz.prog 28 #[.agg #[.int .i64 X0, .int .i64 X1, .int .i64 X2, .int .i64 X3, .int .i64 X4, .slice aos n caps, .slice aor m capr]] w fun e w' => e = .returned (.tuple #[.string ⟨(textZ X0 X1 X2 X3 X4 S T n m).toArray⟩, .int .i64 0]) ∧ Below w.heap.size w w' := by
  obtain ⟨hns, hnr, hnu, hss, hrr⟩ := good_parts hok
  have hfa := whole_any X0 X1 X2 X3 X4 S T aos aor n m caps capr (w.alloc (.cells #[.int .i64 X0, .int .i64 X1, .int .i64 X2, .int .i64 X3, .int .i64 X4, .slice aos n caps, .slice aor m capr] 36)) hX (by omega) (by omega) (hs.below (below1 _ _)) (hr.below (below1 _ _))
  rw [hok] at hfa
  have HS := hide hs
  have HR := hide hr
  have HNU := hide hnu
  have HSN := hide hss
  have HRN := hide hrr
  have HFA := hide hfa
  clear hs hr hfa hok hnu hss hrr
  go_enter Tryz.func28, Tryz.ntmps28
  go_wp2_with fail
  refine HFA.out.mono ?_
  rintro e0 w0 ⟨rfl, hb0⟩
  obtain ⟨hw0, hz0, hbox⟩ := box_facts (w := w) hb0 rfl rfl rfl rfl
  have c0 : w0.cell? ⟨w.heap.size, 0, none⟩ = some (.int .i64 X0) := hbox 0
  have c1 : w0.cell? ⟨w.heap.size, 1, none⟩ = some (.int .i64 X1) := hbox 1
  have c2 : w0.cell? ⟨w.heap.size, 2, none⟩ = some (.int .i64 X2) := hbox 2
  have c3 : w0.cell? ⟨w.heap.size, 3, none⟩ = some (.int .i64 X3) := hbox 3
  have c4 : w0.cell? ⟨w.heap.size, 4, none⟩ = some (.int .i64 X4) := hbox 4
  have HB5 : Hid (w0.cell? ⟨w.heap.size, 5, none⟩ = some (.slice aos n caps)) := hbox 5
  have HB6 : Hid (w0.cell? ⟨w.heap.size, 6, none⟩ = some (.slice aor m capr)) := hbox 6
  have HW0 := hide hw0
  clear hb0 hbox hw0 HFA
  go_wp2_with fail
  refine (rline_all _ 5 _ [68] [X0, X1, X2, X3, X4] _ rfl (by omega) (by simp) (by simp) HNU.out (cells5 (by simp [go_sem]) (by simp [go_sem]) (by simp [go_sem]) (by simp [go_sem]) (by simp [go_sem]))).mono ?_
  rintro e1 w1 ⟨rfl, hb1⟩
  have HBW : Hid (Below w0.heap.size w0 w1) := (below1 w0 _).trans (hb1.mono (by simp))
  have hL' : (lineL [68] [X0, X1, X2, X3, X4]).length ≤ 100 := by have := lineL_length [68] [X0, X1, X2, X3, X4]; simp at this; omega
  clear hb1 c0 c1 c2 c3 c4
  go_wp2_with fail
  go_loopw [5, 6] (fun s i wr => ∃ (k : Nat) (t : List UInt8), i = .int .i64 k ∧ s = .string ⟨t.toArray⟩ ∧ k ≤ n ∧ t.length ≤ 100 + 50 * k ∧ Hid (t = lineL [68] [X0, X1, X2, X3, X4] ++ stopsZ S k) ∧ Hid (Below w0.heap.size w0 wr)) (fun _ i _ => n - (intOf i).toNat)
  case atStart => exact ⟨0, _, rfl, rfl, by omega, by omega, by show _ = _; simp [stopsZ, stopsL], HBW⟩
  case round =>
    clear HBW
    obtain ⟨k, t, rfl, rfl, hk, ht, HT, HBW⟩ := hrel
    have d5 : wr.cell? ⟨w.heap.size, 5, none⟩ = some (.slice aos n caps) := (HBW.out.cell (by exact hz0)).trans HB5.out
    have hsz : w0.heap.size ≤ wr.heap.size := HBW.out.size
    have HW : Hid (Below w.heap.size w wr) := HW0.out.trans (HBW.out.mono (by omega))
    by_cases hlt : k < n
    · obtain ⟨g, o, rfl, hgl, hc⟩ := HS.out (by omega)
      have hcl : ∀ j, j < 5 → wr.cell? ⟨g, o + k * 5 + j, none⟩ = some (.int .i64 (S k j)) := fun j hj => (HW.out.cell (by exact hgl)).trans (hc k j hlt hj)
      have hsm := HSN.out k hlt
      have HT' := stopsZ_snoc S k
      have x0 : wr.cell? ⟨g, o + k * 5, none⟩ = some (.int .i64 (S k 0)) := hcl 0 (by omega)
      have x1 : wr.cell? ⟨g, o + k * 5 + 1, none⟩ = some (.int .i64 (S k 1)) := hcl 1 (by omega)
      have x2 : wr.cell? ⟨g, o + k * 5 + 2, none⟩ = some (.int .i64 (S k 2)) := hcl 2 (by omega)
      have x3 : wr.cell? ⟨g, o + k * 5 + 3, none⟩ = some (.int .i64 (S k 3)) := hcl 3 (by omega)
      have x4 : wr.cell? ⟨g, o + k * 5 + 4, none⟩ = some (.int .i64 (S k 4)) := hcl 4 (by omega)
      generalize S k 0 = a at *
      generalize S k 1 = b at *
      generalize S k 2 = c at *
      generalize S k 3 = d at *
      generalize S k 4 = e at *
      have HSM := hide hsm
      have HT2 := hide HT'
      clear hcl hsm HT' hc
      go_wp2_with fail
      refine (rline_all _ 5 _ [83] [a, b, c, d, e] _ rfl (by omega) (by simp) (by simp) HSM.out (cells5 (by simp [go_sem]) (by simp [go_sem]) (by simp [go_sem]) (by simp [go_sem]) (by simp [go_sem]))).mono ?_
      rintro e2 w2 ⟨rfl, hb2⟩
      have hll : (lineL [83] [a, b, c, d, e]).length ≤ 50 := by have := lineL_length [83] [a, b, c, d, e]; simp at this; omega
      have HW2 : Hid (Below wr.heap.size wr w2) := (below2 wr _ _).trans (hb2.mono (by simp; omega))
      clear hb2 x0 x1 x2 x3 x4 d5
      go_wp2
      go_roundw
      case rel =>
        refine ⟨k + 1, t ++ lineL [83] [a, b, c, d, e], by go_num, ?_, by omega, ?_, ?_, ?_⟩
        · rw [← ba_append]
        · simp; omega
        · show _ = _; rw [HT.out, HT2.out]; simp
        · exact HBW.out.trans (HW2.out.mono (by omega))
      case measure => simp [intOf]; omega
    · have hke : k = n := by omega
      have HT' : Hid (t = lineL [68] [X0, X1, X2, X3, X4] ++ stopsZ S n) := by show _ = _; rw [← hke]; exact HT.out
      clear hke
      clear HT
      go_wp2_with fail
      go_loopw [5, 9] (fun s i wx => ∃ (k : Nat) (q : List UInt8), i = .int .i64 k ∧ s = .string ⟨q.toArray⟩ ∧ k ≤ m ∧ q.length ≤ 500 + 50 * k ∧ Hid (q = t ++ roadsZ T k) ∧ Hid (Below w0.heap.size w0 wx)) (fun _ i _ => m - (intOf i).toNat)
      case atStart => exact ⟨0, t, rfl, rfl, by omega, by omega, by show _ = _; simp [roadsZ, roadsL], HBW⟩
      case round =>
        clear HW HBW d5 hsz
        obtain ⟨k, q, rfl, rfl, hk, hq, HQ, HBW⟩ := hrel
        have d6 : wr.cell? ⟨w.heap.size, 6, none⟩ = some (.slice aor m capr) := (HBW.out.cell (by exact hz0)).trans HB6.out
        have hsz : w0.heap.size ≤ wr.heap.size := HBW.out.size
        have HW : Hid (Below w.heap.size w wr) := HW0.out.trans (HBW.out.mono (by omega))
        by_cases hlt : k < m
        · obtain ⟨g, o, rfl, hgl, hc⟩ := HR.out (by omega)
          have hcl : ∀ j, j < 3 → wr.cell? ⟨g, o + k * 3 + j, none⟩ = some (.int .i64 (T k j)) := fun j hj => (HW.out.cell (by exact hgl)).trans (hc k j hlt hj)
          have hsm := HRN.out k hlt
          have HQ' := roadsZ_snoc T k
          have x0 : wr.cell? ⟨g, o + k * 3, none⟩ = some (.int .i64 (T k 0)) := hcl 0 (by omega)
          have x1 : wr.cell? ⟨g, o + k * 3 + 1, none⟩ = some (.int .i64 (T k 1)) := hcl 1 (by omega)
          have x2 : wr.cell? ⟨g, o + k * 3 + 2, none⟩ = some (.int .i64 (T k 2)) := hcl 2 (by omega)
          generalize T k 0 = a at *
          generalize T k 1 = b at *
          generalize T k 2 = c at *
          have HSM := hide hsm
          have HQ2 := hide HQ'
          clear hcl hsm HQ' hc
          go_wp2_with fail
          refine (rline_all _ 3 _ [82] [a, b, c] _ rfl (by omega) (by simp) (by simp) HSM.out (cells3 (by simp [go_sem]) (by simp [go_sem]) (by simp [go_sem]))).mono ?_
          rintro e2 w2 ⟨rfl, hb2⟩
          have hll : (lineL [82] [a, b, c]).length ≤ 50 := by have := lineL_length [82] [a, b, c]; simp at this; omega
          have HW2 : Hid (Below wr.heap.size wr w2) := (below2 wr _ _).trans (hb2.mono (by simp; omega))
          clear hb2 x0 x1 x2 d6
          go_wp2
          go_roundw
          case rel =>
            refine ⟨k + 1, q ++ lineL [82] [a, b, c], by go_num, ?_, by omega, ?_, ?_, ?_⟩
            · rw [← ba_append]
            · simp; omega
            · show _ = _; rw [HQ.out, HQ2.out]; simp
            · exact HBW.out.trans (HW2.out.mono (by omega))
          case measure => simp [intOf]; omega
        · go_wp2
          have hke : k = m := by omega
          have e : textZ X0 X1 X2 X3 X4 S T n m = q := by rw [HQ.out, HT'.out, hke]; rfl
          rw [e]
          go_ret2
          exact ⟨rfl, HW.out⟩
end Go.Proofs.YtebinaopncclgaaGreatDoor
