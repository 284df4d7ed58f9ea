/- Walks of the document's answer: the square of cells. -/
import Derived.Test.YtebinaopncclgabGreatDoorCRarc
import Derived.Test.YtebinaopncclgabGreatDoorGrdZ
import Derived.Test.YtebinaopncclgabGreatDoorCSq
namespace Go.Proofs.YtebinaopncclgabGreatDoor
open Go.RowKit Go.IntWalk

set_option maxRecDepth 100000 in
set_option maxHeartbeats 4000000 in
theorem rcell_any (r : Rd) (D : Nat → Nat → Int) (on off : List (List Int)) (von voff vs vr vw : Value) (a b : Nat) (w : World) (hr : r.stops.length ≤ 7) (ha : a ≤ r.stops.length) (hb : b ≤ r.stops.length) (hon : ArcL w von on) (hoff : ArcL w voff off) (hl1 : on.length ≤ 4000000) (hl2 : off.length ≤ 4000000) (hq : SqR w vw (r.stops.length + 1) D) (hvs : ∃ ao n c, vs = .slice ao n c) (hvr : ∃ ao n c, vr = .slice ao n c) :
    Calls Tryz.prog 185 #[.agg (ground r vs vr vw), von, voff, .int .i64 a, .int .i64 b] w fun e w' => e = .returned (.int .i64 (cellD on off D a b)) ∧ Below w.heap.size w w' := by
  obtain ⟨W, hW⟩ : ∃ W, W = w.alloc (.cells (ground r vs vr vw) 109) := ⟨_, rfl⟩
  obtain ⟨hbW, hbox, _, _, _, _, _, _, _, k7⟩ := ground_box hW
  have HBW := hid hbW
  have HQ := hid (hq.below hbW)
  have HC1 := hid (held_any off voff a b W (hoff.below hbW) hl2)
  have HON := hid (hon.below hbW)
  have HC2 : Hid (∀ W2, Below W.heap.size W W2 → Calls Tryz.prog 210 #[von, .int .i64 a, .int .i64 b] W2 fun e w' => e = .returned (.bool (rivalB on a b)) ∧ Below W2.heap.size W2 w') := fun W2 h2 => rival_any on von a b W2 (HON.out.below h2) hl1 (by omega) (by omega)
  have HX : Hid (cellD on off D a b = if a = 0 ∧ b = 0 then 0 else if a = b ∨ decide ([(a : Int), (b : Int)] ∈ off) = true ∨ rivalB on a b = true then -1 else D a b) := by show _ = _; unfold cellD; simp only [decide_eq_true_eq]
  obtain ⟨a1, n1, c1, rfl⟩ := hvr
  obtain ⟨a2, n2, c2, rfl⟩ := hvs
  obtain ⟨a3, n3, rfl, _⟩ := id hon
  obtain ⟨a4, n4, rfl, _⟩ := id hoff
  obtain ⟨af, cf, rfl, hn100, hsq⟩ := HQ.out
  obtain ⟨fg, fgi, fci, rfl, hfg, hfc, hfgi, hfr⟩ := hsq a (by omega)
  have hd := hfr b (by omega)
  obtain ⟨d, hdd⟩ : ∃ d, d = D a b := ⟨_, rfl⟩
  rw [← hdd] at hd HX
  generalize cellD on off D a b = ans at *
  generalize decide ([(a : Int), (b : Int)] ∈ off) = gone at *
  generalize rivalB on a b = other at *
  have HWQ := hid hW
  have ia : (0 : Int) ≤ (a : Int) := by omega
  have ib : (0 : Int) ≤ (b : Int) := by omega
  have ja2 : (a : Int) < (r.stops.length : Int) + 1 := by omega
  have jb2 : (b : Int) < (r.stops.length : Int) + 1 := by omega
  clear hq hon hoff hbW hW hdd hsq hfr HQ HON
  unfold ground at *
  by_cases h00 : a = 0 ∧ b = 0
  · have HY : Hid (ans = 0) := by show _ = _; rw [HX.out, if_pos h00]
    have c1 : ((a : Int) == 0) = true := by simp [h00.1]
    have c2 : ((b : Int) == 0) = true := by simp [h00.2]
    clear h00 HX
    go_enter Tryz.func185, Tryz.ntmps185
    go_wp2_with go_in
    all_goals
      go_ret
      refine ⟨ret_int HY.out.symm, ?_⟩
      rw [← HWQ.out]; exact HBW.out
  · have HX2 : Hid (ans = if a = b ∨ gone = true ∨ other = true then -1 else d) := by show _ = _; rw [HX.out, if_neg h00]
    have key : ((a : Int) == 0) = false ∨ (((a : Int) == 0) = true ∧ ((b : Int) == 0) = false) := by
      by_cases h : a = 0
      · exact .inr ⟨by simp [h], by simp; omega⟩
      · exact .inl (by simp; omega)
    clear h00 HX
    rcases key with k1 | ⟨k1, k2⟩
    · go_enter Tryz.func185, Tryz.ntmps185
      by_cases hab : a = b
      · have HY : Hid (ans = -1) := by show _ = _; rw [HX2.out, if_pos (.inl hab)]
        have c3 : ((a : Int) == (b : Int)) = true := by simp [hab]
        clear hab HX2
        go_wp2_with fail
        rw [← HWQ.out]
        refine HC1.out.mono ?_
        rintro e1 w1 ⟨rfl, hb1⟩
        have HB1 := hid hb1
        clear hb1
        go_wp2_with fail
        refine (HC2.out _ HB1.out).mono ?_
        rintro e2 w2 ⟨rfl, hb2⟩
        have HB2 : Hid (Below W.heap.size W w2) := HB1.out.trans (hb2.mono HB1.out.size)
        clear hb2 HC1 HC2
        have x7 : w2.cell? ⟨w.heap.size, 7, none⟩ = _ := (HB2.out.cell (by exact hbox)).trans k7
        have xf : w2.cell? ⟨fg, a, none⟩ = _ := (HB2.out.cell (by exact hfg)).trans hfc
        have xd : w2.cell? ⟨fgi, b, none⟩ = _ := (HB2.out.cell (by exact hfgi)).trans hd
        have hl0 : w.heap.size < w2.heap.size := Nat.lt_of_lt_of_le hbox HB2.out.size
        have hl1 : fg < w2.heap.size := Nat.lt_of_lt_of_le hfg HB2.out.size
        have hl2 : fgi < w2.heap.size := Nat.lt_of_lt_of_le hfgi HB2.out.size
        clear hd hfc k7
        go_wp2_with go_in
        all_goals
          go_ret
          exact ⟨ret_int HY.out.symm, by first | exact HBW.out.trans (HB2.out.mono HBW.out.size) | exact HBW.out.trans (HB2.out.drew.mono HBW.out.size)⟩
      · have c3 : ((a : Int) == (b : Int)) = false := by simp; omega
        cases gone
        · cases other
          · have HY : Hid (ans = d) := by show _ = _; rw [HX2.out, if_neg (by rintro (h | h | h); exact hab h; cases h; cases h)]
            clear hab HX2
            go_wp2_with fail
            rw [← HWQ.out]
            refine HC1.out.mono ?_
            rintro e1 w1 ⟨rfl, hb1⟩
            have HB1 := hid hb1
            clear hb1
            go_wp2_with fail
            refine (HC2.out _ HB1.out).mono ?_
            rintro e2 w2 ⟨rfl, hb2⟩
            have HB2 : Hid (Below W.heap.size W w2) := HB1.out.trans (hb2.mono HB1.out.size)
            clear hb2 HC1 HC2
            have x7 : w2.cell? ⟨w.heap.size, 7, none⟩ = _ := (HB2.out.cell (by exact hbox)).trans k7
            have xf : w2.cell? ⟨fg, a, none⟩ = _ := (HB2.out.cell (by exact hfg)).trans hfc
            have xd : w2.cell? ⟨fgi, b, none⟩ = _ := (HB2.out.cell (by exact hfgi)).trans hd
            have hl0 : w.heap.size < w2.heap.size := Nat.lt_of_lt_of_le hbox HB2.out.size
            have hl1 : fg < w2.heap.size := Nat.lt_of_lt_of_le hfg HB2.out.size
            have hl2 : fgi < w2.heap.size := Nat.lt_of_lt_of_le hfgi HB2.out.size
            clear hd hfc k7
            go_wp2_with go_in
            all_goals
              go_ret
              exact ⟨ret_int HY.out.symm, by first | exact HBW.out.trans (HB2.out.mono HBW.out.size) | exact HBW.out.trans (HB2.out.drew.mono HBW.out.size)⟩
          · have HY : Hid (ans = -1) := by show _ = _; rw [HX2.out, if_pos (.inr (.inr rfl))]
            clear hab HX2
            go_wp2_with fail
            rw [← HWQ.out]
            refine HC1.out.mono ?_
            rintro e1 w1 ⟨rfl, hb1⟩
            have HB1 := hid hb1
            clear hb1
            go_wp2_with fail
            refine (HC2.out _ HB1.out).mono ?_
            rintro e2 w2 ⟨rfl, hb2⟩
            have HB2 : Hid (Below W.heap.size W w2) := HB1.out.trans (hb2.mono HB1.out.size)
            clear hb2 HC1 HC2
            have x7 : w2.cell? ⟨w.heap.size, 7, none⟩ = _ := (HB2.out.cell (by exact hbox)).trans k7
            have xf : w2.cell? ⟨fg, a, none⟩ = _ := (HB2.out.cell (by exact hfg)).trans hfc
            have xd : w2.cell? ⟨fgi, b, none⟩ = _ := (HB2.out.cell (by exact hfgi)).trans hd
            have hl0 : w.heap.size < w2.heap.size := Nat.lt_of_lt_of_le hbox HB2.out.size
            have hl1 : fg < w2.heap.size := Nat.lt_of_lt_of_le hfg HB2.out.size
            have hl2 : fgi < w2.heap.size := Nat.lt_of_lt_of_le hfgi HB2.out.size
            clear hd hfc k7
            go_wp2_with go_in
            all_goals
              go_ret
              exact ⟨ret_int HY.out.symm, by first | exact HBW.out.trans (HB2.out.mono HBW.out.size) | exact HBW.out.trans (HB2.out.drew.mono HBW.out.size)⟩
        · have HY : Hid (ans = -1) := by show _ = _; rw [HX2.out, if_pos (.inr (.inl rfl))]
          clear hab HX2
          go_wp2_with fail
          rw [← HWQ.out]
          refine HC1.out.mono ?_
          rintro e1 w1 ⟨rfl, hb1⟩
          have HB1 := hid hb1
          clear hb1
          go_wp2_with fail
          refine (HC2.out _ HB1.out).mono ?_
          rintro e2 w2 ⟨rfl, hb2⟩
          have HB2 : Hid (Below W.heap.size W w2) := HB1.out.trans (hb2.mono HB1.out.size)
          clear hb2 HC1 HC2
          have x7 : w2.cell? ⟨w.heap.size, 7, none⟩ = _ := (HB2.out.cell (by exact hbox)).trans k7
          have xf : w2.cell? ⟨fg, a, none⟩ = _ := (HB2.out.cell (by exact hfg)).trans hfc
          have xd : w2.cell? ⟨fgi, b, none⟩ = _ := (HB2.out.cell (by exact hfgi)).trans hd
          have hl0 : w.heap.size < w2.heap.size := Nat.lt_of_lt_of_le hbox HB2.out.size
          have hl1 : fg < w2.heap.size := Nat.lt_of_lt_of_le hfg HB2.out.size
          have hl2 : fgi < w2.heap.size := Nat.lt_of_lt_of_le hfgi HB2.out.size
          clear hd hfc k7
          go_wp2_with go_in
          all_goals
            go_ret
            exact ⟨ret_int HY.out.symm, by first | exact HBW.out.trans (HB2.out.mono HBW.out.size) | exact HBW.out.trans (HB2.out.drew.mono HBW.out.size)⟩
    · go_enter Tryz.func185, Tryz.ntmps185
      by_cases hab : a = b
      · have HY : Hid (ans = -1) := by show _ = _; rw [HX2.out, if_pos (.inl hab)]
        have c3 : ((a : Int) == (b : Int)) = true := by simp [hab]
        clear hab HX2
        go_wp2_with fail
        rw [← HWQ.out]
        refine HC1.out.mono ?_
        rintro e1 w1 ⟨rfl, hb1⟩
        have HB1 := hid hb1
        clear hb1
        go_wp2_with fail
        refine (HC2.out _ HB1.out).mono ?_
        rintro e2 w2 ⟨rfl, hb2⟩
        have HB2 : Hid (Below W.heap.size W w2) := HB1.out.trans (hb2.mono HB1.out.size)
        clear hb2 HC1 HC2
        have x7 : w2.cell? ⟨w.heap.size, 7, none⟩ = _ := (HB2.out.cell (by exact hbox)).trans k7
        have xf : w2.cell? ⟨fg, a, none⟩ = _ := (HB2.out.cell (by exact hfg)).trans hfc
        have xd : w2.cell? ⟨fgi, b, none⟩ = _ := (HB2.out.cell (by exact hfgi)).trans hd
        have hl0 : w.heap.size < w2.heap.size := Nat.lt_of_lt_of_le hbox HB2.out.size
        have hl1 : fg < w2.heap.size := Nat.lt_of_lt_of_le hfg HB2.out.size
        have hl2 : fgi < w2.heap.size := Nat.lt_of_lt_of_le hfgi HB2.out.size
        clear hd hfc k7
        go_wp2_with go_in
        all_goals
          go_ret
          exact ⟨ret_int HY.out.symm, by first | exact HBW.out.trans (HB2.out.mono HBW.out.size) | exact HBW.out.trans (HB2.out.drew.mono HBW.out.size)⟩
      · have c3 : ((a : Int) == (b : Int)) = false := by simp; omega
        cases gone
        · cases other
          · have HY : Hid (ans = d) := by show _ = _; rw [HX2.out, if_neg (by rintro (h | h | h); exact hab h; cases h; cases h)]
            clear hab HX2
            go_wp2_with fail
            rw [← HWQ.out]
            refine HC1.out.mono ?_
            rintro e1 w1 ⟨rfl, hb1⟩
            have HB1 := hid hb1
            clear hb1
            go_wp2_with fail
            refine (HC2.out _ HB1.out).mono ?_
            rintro e2 w2 ⟨rfl, hb2⟩
            have HB2 : Hid (Below W.heap.size W w2) := HB1.out.trans (hb2.mono HB1.out.size)
            clear hb2 HC1 HC2
            have x7 : w2.cell? ⟨w.heap.size, 7, none⟩ = _ := (HB2.out.cell (by exact hbox)).trans k7
            have xf : w2.cell? ⟨fg, a, none⟩ = _ := (HB2.out.cell (by exact hfg)).trans hfc
            have xd : w2.cell? ⟨fgi, b, none⟩ = _ := (HB2.out.cell (by exact hfgi)).trans hd
            have hl0 : w.heap.size < w2.heap.size := Nat.lt_of_lt_of_le hbox HB2.out.size
            have hl1 : fg < w2.heap.size := Nat.lt_of_lt_of_le hfg HB2.out.size
            have hl2 : fgi < w2.heap.size := Nat.lt_of_lt_of_le hfgi HB2.out.size
            clear hd hfc k7
            go_wp2_with go_in
            all_goals
              go_ret
              exact ⟨ret_int HY.out.symm, by first | exact HBW.out.trans (HB2.out.mono HBW.out.size) | exact HBW.out.trans (HB2.out.drew.mono HBW.out.size)⟩
          · have HY : Hid (ans = -1) := by show _ = _; rw [HX2.out, if_pos (.inr (.inr rfl))]
            clear hab HX2
            go_wp2_with fail
            rw [← HWQ.out]
            refine HC1.out.mono ?_
            rintro e1 w1 ⟨rfl, hb1⟩
            have HB1 := hid hb1
            clear hb1
            go_wp2_with fail
            refine (HC2.out _ HB1.out).mono ?_
            rintro e2 w2 ⟨rfl, hb2⟩
            have HB2 : Hid (Below W.heap.size W w2) := HB1.out.trans (hb2.mono HB1.out.size)
            clear hb2 HC1 HC2
            have x7 : w2.cell? ⟨w.heap.size, 7, none⟩ = _ := (HB2.out.cell (by exact hbox)).trans k7
            have xf : w2.cell? ⟨fg, a, none⟩ = _ := (HB2.out.cell (by exact hfg)).trans hfc
            have xd : w2.cell? ⟨fgi, b, none⟩ = _ := (HB2.out.cell (by exact hfgi)).trans hd
            have hl0 : w.heap.size < w2.heap.size := Nat.lt_of_lt_of_le hbox HB2.out.size
            have hl1 : fg < w2.heap.size := Nat.lt_of_lt_of_le hfg HB2.out.size
            have hl2 : fgi < w2.heap.size := Nat.lt_of_lt_of_le hfgi HB2.out.size
            clear hd hfc k7
            go_wp2_with go_in
            all_goals
              go_ret
              exact ⟨ret_int HY.out.symm, by first | exact HBW.out.trans (HB2.out.mono HBW.out.size) | exact HBW.out.trans (HB2.out.drew.mono HBW.out.size)⟩
        · have HY : Hid (ans = -1) := by show _ = _; rw [HX2.out, if_pos (.inr (.inl rfl))]
          clear hab HX2
          go_wp2_with fail
          rw [← HWQ.out]
          refine HC1.out.mono ?_
          rintro e1 w1 ⟨rfl, hb1⟩
          have HB1 := hid hb1
          clear hb1
          go_wp2_with fail
          refine (HC2.out _ HB1.out).mono ?_
          rintro e2 w2 ⟨rfl, hb2⟩
          have HB2 : Hid (Below W.heap.size W w2) := HB1.out.trans (hb2.mono HB1.out.size)
          clear hb2 HC1 HC2
          have x7 : w2.cell? ⟨w.heap.size, 7, none⟩ = _ := (HB2.out.cell (by exact hbox)).trans k7
          have xf : w2.cell? ⟨fg, a, none⟩ = _ := (HB2.out.cell (by exact hfg)).trans hfc
          have xd : w2.cell? ⟨fgi, b, none⟩ = _ := (HB2.out.cell (by exact hfgi)).trans hd
          have hl0 : w.heap.size < w2.heap.size := Nat.lt_of_lt_of_le hbox HB2.out.size
          have hl1 : fg < w2.heap.size := Nat.lt_of_lt_of_le hfg HB2.out.size
          have hl2 : fgi < w2.heap.size := Nat.lt_of_lt_of_le hfgi HB2.out.size
          clear hd hfc k7
          go_wp2_with go_in
          all_goals
            go_ret
            exact ⟨ret_int HY.out.symm, by first | exact HBW.out.trans (HB2.out.mono HBW.out.size) | exact HBW.out.trans (HB2.out.drew.mono HBW.out.size)⟩
end Go.Proofs.YtebinaopncclgabGreatDoor
namespace Go.Proofs.YtebinaopncclgabGreatDoor
open Go.RowKit Go.IntWalk

set_option maxRecDepth 100000 in
set_option maxHeartbeats 4000000 in
theorem rcells_any (r : Rd) (D : Nat → Nat → Int) (on off : List (List Int)) (von voff vs vr vw : Value) (v n : Nat) (w : World) (hr : r.stops.length ≤ 7) (hv : r.vans = v) (hv1 : 1 ≤ v) (hv3 : v ≤ 3) (hmn : n = r.stops.length + v) (hon : ArcL w von on) (hoff : ArcL w voff off) (hl1 : on.length ≤ 4000000) (hl2 : off.length ≤ 4000000) (hq : SqR w vw (r.stops.length + 1) D) (hvs : ∃ ao c, vs = .slice ao r.stops.length c) (hvr : ∃ ao n c, vr = .slice ao n c) :
    Calls Tryz.prog 124 #[.agg (ground r vs vr vw), von, voff] w fun e w' => ∃ x us, e = .returned x ∧ us.length = n ∧ GridR w' w.heap.size w'.heap.size x n (fun i j => cellD on off D (lineN r.stops.length i) (lineN r.stops.length j)) us ∧ Below w.heap.size w w' := by
  obtain ⟨i0, hi, hz0, hz1, hz2⟩ := info_parts Tryz.infoInt
  obtain ⟨j0, hj, hy0, hy1, hy2⟩ := info_parts Tryz.infoInts
  obtain ⟨W, hW⟩ : ∃ W, W = w.alloc (.cells (ground r vs vr vw) 109) := ⟨_, rfl⟩
  obtain ⟨hbW, hbox, k0, k1, k2, k3, k4, k5, k6, k7⟩ := ground_box hW
  have HBW := hid hbW
  have HLN := hid (lineN_list r.stops.length v)
  have HCF : Hid (∀ W2 i j, Below W.heap.size W W2 → Calls Tryz.prog 185 #[.agg (ground r vs vr vw), von, voff, .int .i64 (lineN r.stops.length i), .int .i64 (lineN r.stops.length j)] W2 fun e w' => e = .returned (.int .i64 (cellD on off D (lineN r.stops.length i) (lineN r.stops.length j))) ∧ Below W2.heap.size W2 w') := fun W2 i j h2 => by
    have hb2 : Below w.heap.size w W2 := hbW.trans (h2.mono hbW.size)
    have l1 := lineN_lt r.stops.length i
    have l2 := lineN_lt r.stops.length j
    obtain ⟨ao, c, e⟩ := hvs
    exact rcell_any r D on off von voff vs vr vw _ _ W2 hr (by omega) (by omega) (hon.below hb2) (hoff.below hb2) hl1 hl2 (hq.below hb2) ⟨ao, _, c, e⟩ hvr
  obtain ⟨F, hF⟩ : ∃ F : Nat → Nat → Int, F = fun i j => cellD on off D (lineN r.stops.length i) (lineN r.stops.length j) := ⟨_, rfl⟩
  obtain ⟨Sf, hS⟩ : ∃ Sf : Nat → Nat, Sf = lineN r.stops.length := ⟨_, rfl⟩
  have HCG : Hid (∀ W2 i j, Below W.heap.size W W2 → Calls Tryz.prog 185 #[.agg (ground r vs vr vw), von, voff, .int .i64 (Sf i), .int .i64 (Sf j)] W2 fun e w' => e = .returned (.int .i64 (F i j)) ∧ Below W2.heap.size W2 w') := by
    intro W2 i j h2
    rw [hF, hS]; exact HCF.out W2 i j h2
  have HLS : Hid (lineS r.stops.length ++ List.replicate v 0 = (List.range n).map fun i => (Sf i : Int)) := by show _ = _; rw [hmn, hS]; exact HLN.out
  rw [← hF]
  obtain ⟨a1, n1, c1, rfl⟩ := hvr
  obtain ⟨a2, c2, rfl⟩ := hvs
  obtain ⟨a3, n3, rfl, _⟩ := id hon
  obtain ⟨a4, n4, rfl, _⟩ := id hoff
  obtain ⟨af, cf, rfl, _, _⟩ := id hq
  rw [hv] at k0
  have HWQ := hid hW
  have hn10 : n ≤ 10 := by omega
  have hn1 : 1 ≤ n := by omega
  have hv0 : r.vans = (v : Int) := hv
  clear hon hoff hq hbW hW HCF HLN hF hS
  unfold ground at *
  rw [hv0] at HWQ HCG ⊢
  have HMN := hid hmn
  have hm1 : n ≤ r.stops.length + v := by omega
  have hm2 : r.stops.length + v ≤ n := by omega
  clear hmn
  generalize hmm : r.stops.length = m at *
  have HKS : Hid (∀ W2, Below W.heap.size W W2 → w.heap.size < W2.heap.size ∧ W2.cell? ⟨w.heap.size, 0, none⟩ = some (.int .i64 v) ∧ W2.cell? ⟨w.heap.size, 5, none⟩ = some (.slice a2 m c2)) := fun W2 h2 => ⟨Nat.lt_of_lt_of_le hbox h2.size, (h2.cell (by exact hbox)).trans k0, (h2.cell (by exact hbox)).trans k5⟩
  have HKA : Hid (∀ W2, Below W.heap.size W W2 → W2.cell? ⟨w.heap.size, 1, none⟩ = some (.int .i64 r.load) ∧ W2.cell? ⟨w.heap.size, 2, none⟩ = some (.int .i64 r.close) ∧ W2.cell? ⟨w.heap.size, 3, none⟩ = some (.int .i64 r.nodes) ∧ W2.cell? ⟨w.heap.size, 4, none⟩ = some (.int .i64 r.home) ∧ W2.cell? ⟨w.heap.size, 6, none⟩ = some (.slice a1 n1 c1) ∧ W2.cell? ⟨w.heap.size, 7, none⟩ = some (.slice af (m + 1 : Nat) cf)) := fun W2 h2 => ⟨(h2.cell (by exact hbox)).trans k1, (h2.cell (by exact hbox)).trans k2, (h2.cell (by exact hbox)).trans k3, (h2.cell (by exact hbox)).trans k4, (h2.cell (by exact hbox)).trans k6, (h2.cell (by exact hbox)).trans k7⟩
  clear k0 k1 k2 k3 k4 k5 k6 k7
  go_enter Tryz.func124, Tryz.ntmps124
  go_wp2_with fail
  rw [← HWQ.out]
  go_loopw [7, 8] (fun lv i wr => ∃ k : Nat, k ≤ m ∧ i = .int .i64 k ∧ Hid (wr.ownsRow W.heap.size 3 1 lv k (ints (lineS k))) ∧ Hid (Below W.heap.size W wr)) (fun _ i _ => m - (intOf i).toNat)
  case atStart => exact ⟨0, Nat.zero_le _, rfl, World.ownsRow_nil _ _ _ _, Below.refl _ _⟩
  case round =>
    obtain ⟨k, hk, rfl, HO, HB⟩ := hrel
    obtain ⟨al, cl, rfl, _, _⟩ := own_val HO.out
    have hbs := HB.out.size
    obtain ⟨hbl, d0, d5⟩ := HKS.out wr HB.out
    by_cases hlt : k < m
    · have HT := hid (lineS_succ k)
      go_wp2_with (first
        | (at_builtin; refine wpList_append_own _ rfl _ _ 40 rfl W.heap.size 3 i0 (.int .i64 0) 1 8 Tryz.underlying40 hi hz0 hz1 hz2 rfl (by decide) _ _ _ rfl (HO.out.alloc _) ⟨wr.heap.size, 0, none⟩ 1 1 [.int .i64 (k + 1 : Nat)] rfl rfl ?c1 ?c2 ?c3 ?c4 ?c5 ?_)
        | go_in)
      case c1 => exact cell_one_new _ _ _
      case c2 => intro u hu; simp at hu; subst hu; rfl
      case c3 => unfold maxLen; omega
      case c4 => omega
      case c5 => simp; omega
      intro v' w2 hown' hgrow _
      have HO' := hid hown'
      have HG := hid hgrow
      clear hown' hgrow d0 d5
      go_wp2
      go_roundw
      case rel =>
        refine ⟨k + 1, by omega, by go_num, ?_, ?_⟩
        · show World.ownsRow _ _ _ _ _ _ _
          rw [HT.out, ints_append]; exact HO'.out
        · exact (HB.out.alloc (by omega) _).grown HG.out (by simp; omega) (fun q hq => by have := (HO.out.lt q hq).1; omega)
      case measure => simp [intOf]; omega
    · have hke : k = m := by omega
      subst hke
      clear hlt hk
      obtain ⟨w1, hw1⟩ : ∃ w1, w1 = wr := ⟨_, rfl⟩
      rw [← hw1] at HO HB
      go_wp2_with fail
      rw [← hw1]
      go_loopw [7, 9] (fun lv i wr => ∃ q : Nat, q ≤ v ∧ i = .int .i64 q ∧ Hid (wr.ownsRow W.heap.size 3 1 lv (k + q) (ints (lineS k ++ List.replicate q 0))) ∧ Hid (Below W.heap.size W wr)) (fun _ i _ => v - (intOf i).toNat)
      case atStart => exact ⟨0, Nat.zero_le _, rfl, by show World.ownsRow _ _ _ _ _ _ _; rw [List.replicate_zero, List.append_nil]; exact HO.out, HB⟩
      case round =>
        clear HO HB hbl d0 d5 hbs
        obtain ⟨q, hq, rfl, HO, HB⟩ := hrel
        obtain ⟨al, cl, rfl, _, _⟩ := own_val HO.out
        have hbs := HB.out.size
        obtain ⟨hbl, d0, d5⟩ := HKS.out wr HB.out
        by_cases hlt : q < v
        · have HT : Hid (lineS k ++ List.replicate (q + 1) (0 : Int) = (lineS k ++ List.replicate q 0) ++ [0]) := by show _ = _; rw [List.replicate_succ', List.append_assoc]
          go_wp2_with (first
            | (at_builtin; refine wpList_append_own _ rfl _ _ 40 rfl W.heap.size 3 i0 (.int .i64 0) 1 8 Tryz.underlying40 hi hz0 hz1 hz2 rfl (by decide) _ _ _ rfl (HO.out.alloc _) ⟨wr.heap.size, 0, none⟩ 1 1 [.int .i64 0] rfl rfl ?c1 ?c2 ?c3 ?c4 ?c5 ?_)
            | go_in)
          case c1 => exact cell_one_new _ _ _
          case c2 => intro u hu; simp at hu; subst hu; rfl
          case c3 => unfold maxLen; omega
          case c4 => omega
          case c5 => simp; omega
          intro v' w2 hown' hgrow _
          have HO' := hid hown'
          have HG := hid hgrow
          clear hown' hgrow d0 d5
          go_wp2
          go_roundw
          case rel =>
            refine ⟨q + 1, by omega, by go_num, ?_, ?_⟩
            · show World.ownsRow _ _ _ _ _ _ _
              rw [HT.out, ints_append]; exact HO'.out
            · exact (HB.out.alloc (by omega) _).grown HG.out (by simp; omega) (fun q hq => by have := (HO.out.lt q hq).1; omega)
          case measure => simp [intOf]; omega
        · have hke : q = v := by omega
          have HO2 := HO.out
          rw [hke, ← HMN.out, HLS.out] at HO2
          obtain ⟨g0, c0, cur0, hsl, hg0w, hg0h, _⟩ := own_shape HO2 (by omega)
          have hkn2 : k + q = n := by omega
          rw [hkn2] at HO
          have e0 : Value.slice al (k + q : Nat) cl = .slice (some ⟨g0, 0, none⟩) n c0 := by rw [hkn2]; exact hsl
          cases hsl
          rw [hkn2]
          clear hkn2
          have HSC : Hid (∀ i, i < n → wr.cell? ⟨g0, i, none⟩ = some (.int .i64 (Sf i))) := fun i hi => by
            rw [HO2.cellAt i (by omega)]; simp [ints, hi]
          have hg0l : g0 < wr.heap.size := own_cells_int HO2
          obtain ⟨wa, hwa⟩ : ∃ wa, wa = wr := ⟨_, rfl⟩
          rw [← hwa] at HB HSC hg0l hbs
          clear HO HO2 hg0w hg0h hke hq e0
          go_wp2_with fail
          rw [← hwa]
          clear hwa hbl d0 d5 hlt
          go_loopw [10, 11] (fun ov i wr => ∃ (p : Nat) (os : List Value), i = .int .i64 p ∧ p ≤ n ∧ os.length = p ∧ Hid (GridR wr wa.heap.size wr.heap.size ov n F os) ∧ Hid (Below wa.heap.size wa wr)) (fun _ i _ => n - (intOf i).toNat)
          case atStart => exact ⟨0, [], rfl, by omega, rfl, GridR.nil _ _ _ _ _, Below.refl _ _⟩
          case round =>
            have HBA := HB
            clear HB
            obtain ⟨p, os, rfl, hp, hol, HG, HB⟩ := hrel
            have hbs2 := HB.out.size
            obtain ⟨avo, cvo, hov, _, _⟩ := own_val HG.out.own
            rw [hol] at hov
            subst hov
            by_cases hlp : p < n
            · obtain ⟨w3, hw3⟩ : ∃ w3, w3 = wr := ⟨_, rfl⟩
              rw [← hw3] at HG HB hbs2
              go_wp2_with fail
              rw [← hw3]
              clear hw3
              go_loopw [12, 13] (fun l j wr => ∃ q : Nat, j = .int .i64 q ∧ q ≤ n ∧ Hid (wr.ownsRow w3.heap.size 3 1 l q (ints ((List.range q).map (F p)))) ∧ Hid (GridR wr wa.heap.size w3.heap.size (.slice avo p cvo) n F os) ∧ Hid (Below w3.heap.size w3 wr)) (fun _ j _ => n - (intOf j).toNat)
              case atStart => exact ⟨0, rfl, by omega, World.ownsRow_nil _ _ _ _, HG, Below.refl _ _⟩
              case round =>
                clear HG
                have HB3 := HB
                clear HB
                obtain ⟨q, rfl, hq, HL, HG, HB⟩ := hrel
                have hbs3 := HB.out.size
                have hba : Below wa.heap.size wa wr := HB3.out.trans (HB.out.mono hbs2)
                have hbw : Below W.heap.size W wr := HBA.out.trans (hba.mono hbs)
                obtain ⟨avl, cvl, hlv, _, _⟩ := own_val HL.out
                subst hlv
                by_cases hlq : q < n
                · have s1 : wr.cell? ⟨g0, p, none⟩ = some (.int .i64 (Sf p)) := (hba.cell (p := ⟨g0, p, none⟩) hg0l).trans (HSC.out p hlp)
                  have s2 : wr.cell? ⟨g0, q, none⟩ = some (.int .i64 (Sf q)) := (hba.cell (p := ⟨g0, q, none⟩) hg0l).trans (HSC.out q hlq)
                  obtain ⟨hbl, d0, d5⟩ := HKS.out wr hbw
                  obtain ⟨d1, d2, d3, d4, d6, d7⟩ := HKA.out wr hbw
                  have hg0r : g0 < wr.heap.size := by omega
                  have HC : Hid (∀ W2, Below wr.heap.size wr W2 → _) := fun W2 h2 => HCG.out W2 p q (hbw.trans (h2.mono hbw.size))
                  generalize hsp : Sf p = sP at *
                  generalize hsq : Sf q = sQ at *
                  have HCW : Hid (∀ W2, Below wr.heap.size wr W2 → Calls Tryz.prog 185 #[.agg #[.int .i64 v, .int .i64 r.load, .int .i64 r.close, .int .i64 r.nodes, .int .i64 r.home, .slice a2 k c2, .slice a1 n1 c1, .slice af (k + 1 : Nat) cf], .slice a3 on.length n3, .slice a4 off.length n4, .int .i64 sP, .int .i64 sQ] W2 fun e w' => e = .returned (.int .i64 (F p q)) ∧ w'.cell? ⟨w.heap.size, 0, none⟩ = some (.int .i64 v) ∧ w'.cell? ⟨w.heap.size, 1, none⟩ = some (.int .i64 r.load) ∧ w'.cell? ⟨w.heap.size, 2, none⟩ = some (.int .i64 r.close) ∧ w'.cell? ⟨w.heap.size, 3, none⟩ = some (.int .i64 r.nodes) ∧ w'.cell? ⟨w.heap.size, 4, none⟩ = some (.int .i64 r.home) ∧ w'.cell? ⟨w.heap.size, 5, none⟩ = some (.slice a2 k c2) ∧ w'.cell? ⟨w.heap.size, 6, none⟩ = some (.slice a1 n1 c1) ∧ w'.cell? ⟨w.heap.size, 7, none⟩ = some (.slice af (k + 1 : Nat) cf) ∧ w'.cell? ⟨g0, p, none⟩ = some (.int .i64 sP) ∧ w'.cell? ⟨g0, q, none⟩ = some (.int .i64 sQ) ∧ Hid (Below wr.heap.size wr w')) := by
                    intro W2 h2
                    refine (HC.out W2 h2).mono ?_
                    rintro e4 w4 ⟨rfl, hb4⟩
                    have hb : Below wr.heap.size wr w4 := h2.trans (hb4.mono h2.size)
                    have hc : ∀ o u, wr.cell? ⟨w.heap.size, o, none⟩ = some u → w4.cell? ⟨w.heap.size, o, none⟩ = some u := fun o u hu => (hb.cell (by exact hbl)).trans hu
                    exact ⟨rfl, hc 0 _ d0, hc 1 _ d1, hc 2 _ d2, hc 3 _ d3, hc 4 _ d4, hc 5 _ d5, hc 6 _ d6, hc 7 _ d7, (hb.cell (p := ⟨g0, p, none⟩) hg0r).trans s1, (hb.cell (p := ⟨g0, q, none⟩) hg0r).trans s2, hb⟩
                  have HBA2 := hid hba
                  generalize hf : F p q = VV at *
                  have HV := hid hf
                  have ip : (0 : Int) ≤ (p : Int) := by omega
                  have iq : (0 : Int) ≤ (q : Int) := by omega
                  have jp : (p : Int) < (n : Int) := by omega
                  have jq : (q : Int) < (n : Int) := by omega
                  clear hba hbw HC hf
                  go_wp2_with fail
                  go_region_held3 (fun w' => w'.cell? ⟨w.heap.size, 0, none⟩ = some (.int .i64 v) ∧ w'.cell? ⟨w.heap.size, 1, none⟩ = some (.int .i64 r.load) ∧ w'.cell? ⟨w.heap.size, 2, none⟩ = some (.int .i64 r.close) ∧ w'.cell? ⟨w.heap.size, 3, none⟩ = some (.int .i64 r.nodes) ∧ w'.cell? ⟨w.heap.size, 4, none⟩ = some (.int .i64 r.home) ∧ w'.cell? ⟨w.heap.size, 5, none⟩ = some (.slice a2 k c2) ∧ w'.cell? ⟨w.heap.size, 6, none⟩ = some (.slice a1 n1 c1) ∧ w'.cell? ⟨w.heap.size, 7, none⟩ = some (.slice af (k + 1 : Nat) cf) ∧ w'.cell? ⟨g0, p, none⟩ = some (.int .i64 sP) ∧ w'.cell? ⟨g0, q, none⟩ = some (.int .i64 sQ)) (go_keep) (first | (go_at_call 185; refine (HCW.out _ (by first | exact Below.refl _ _ | exact (Below.refl _ _).drew)).mono ?_; rintro e4 w4 ⟨rfl, x0, x1, x2, x3, x4, x5, x6, x7, x8, x9, HB4⟩))
                  have HL4 := hid (own_below HL.out HB4.out)
                  have HG4 := hid (HG.out.below HB4.out (Nat.le_refl _))
                  have HBX : Hid (Below w3.heap.size w3 w4) := HB.out.trans (HB4.out.mono hbs3)
                  have hb4s : w3.heap.size ≤ w4.heap.size := HBX.out.size
                  clear x0 x1 x2 x3 x4 x5 x6 x7 x8 x9 s1 s2 d0 d1 d2 d3 d4 d5 d6 d7 HL HG HB HB4 HCW HBA2
                  go_wp2_with (at_builtin; refine wpList_append_own _ rfl _ _ 40 rfl w3.heap.size 3 i0 (.int .i64 0) 1 8 Tryz.underlying40 hi hz0 hz1 hz2 rfl (by decide) _ _ _ rfl (HL4.out.alloc _) ⟨w4.heap.size, 0, none⟩ 1 1 [.int .i64 VV] rfl rfl ?c1 ?c2 ?c3 ?c4 ?c5 ?_)
                  case c1 => exact news_at rfl rfl
                  case c2 => intro u hu; simp at hu; subst hu; rfl
                  case c3 => unfold maxLen; omega
                  case c4 => omega
                  case c5 => simp; omega
                  intro v' w6 hown6 hgr6 _
                  have HL2 : Hid (w6.ownsRow w3.heap.size 3 1 v' (q + 1) (ints ((List.range (q + 1)).map (F p)))) := by
                    show World.ownsRow _ _ _ _ _ _ _
                    have e : ints ((List.range (q + 1)).map (F p)) = ints ((List.range q).map (F p)) ++ [.int .i64 VV] := by rw [← HV.out]; simp [ints, List.range_succ]
                    rw [e]; exact hown6
                  have hgg : (w4.alloc (.cells #[.int .i64 VV] 3)).grownBy w6 (Value.slice avl q cvl).ownBlock := hgr6
                  have HG5 : Hid (GridR w6 wa.heap.size w3.heap.size (.slice avo p cvo) n F os) := (HG4.out.below (below1 w4 _) (Nat.le_refl _)).grown (own_below HL4.out (below1 w4 _)) (Nat.le_refl _) hgg
                  have HB5 : Hid (Below w3.heap.size w3 w6) := (HBX.out.trans ((below1 w4 _).mono HBX.out.size)).grown hgg (by simp; omega) (fun x hx => (HL4.out.lt x hx).1)
                  obtain ⟨_, _, hv6, _, _⟩ := own_val HL2.out
                  subst hv6
                  clear hown6 hgr6 hgg HL4 HG4 HBX
                  go_wp2
                  go_roundw
                  case rel => exact ⟨q + 1, by go_num, by omega, HL2, HG5, HB5⟩
                  case measure => simp [intOf]; omega
                · have hqn : q = n := by omega
                  have HL' : Hid (wr.ownsRow w3.heap.size 3 1 (.slice avl q cvl) n (ints ((List.range n).map (F p)))) := by
                    have h := HL.out; rw [hqn] at h ⊢; exact h
                  clear hqn
                  go_wp2_with (at_builtin; refine wpList_append_own _ rfl _ _ 31 rfl wa.heap.size 40 j0 (.slice none 0 0) 1 24 Tryz.underlying31 hj hy0 hy1 hy2 rfl (by decide) _ _ _ rfl ((HG.out.own).alloc _) ⟨wr.heap.size, 0, none⟩ 1 1 [.slice avl q cvl] rfl rfl ?c1 ?c2 ?c3 ?c4 ?c5 ?_)
                  case c1 => exact news_at rfl rfl
                  case c2 => intro u hu; simp at hu; subst hu; rfl
                  case c3 => unfold maxLen; omega
                  case c4 => omega
                  case c5 => simp; omega
                  intro v7 w7 hown7 hgr7 _
                  have hgg : (wr.alloc (.cells #[.slice avl q cvl] 40)).grownBy w7 (Value.slice avo p cvo).ownBlock := hgr7
                  have HG7 : Hid (GridR w7 wa.heap.size w7.heap.size v7 n F (os ++ [.slice avl q cvl])) := HG.out.push HL'.out (by omega) (by omega) (below1 wr _) hgg (by rw [hol]; exact hown7) (fun j hj => by rw [hol]; simp [ints, hj])
                  have HB7 : Hid (Below wa.heap.size wa w7) := ((HB3.out.trans (HB.out.mono hbs2)).trans ((below1 wr _).mono (by omega))).grown hgg (by simp; omega) (fun x hx => (HG.out.own.lt x (by rw [hx])).1)
                  obtain ⟨_, _, hv7, _, _⟩ := own_val hown7
                  subst hv7
                  clear hown7 hgr7 hgg HL HG HB HL'
                  go_wp2
                  go_roundw
                  case rel => exact ⟨p + 1, _, by go_num, by omega, by simp [hol], HG7, HB7⟩
                  case measure => simp [intOf]; omega
            · go_wp2
              go_ret
              refine ⟨_, os, rfl, by omega, ?_, HBW.out.trans ((HBA.out.trans (HB.out.mono hbs)).mono HBW.out.size)⟩
              exact HG.out.base (by have := HBW.out.size; omega)
end Go.Proofs.YtebinaopncclgabGreatDoor
