/- Walks of the document's answer: a plan is judged. -/
import Derived.Test.YtebinaopncclgabGreatDoorDWant
import Derived.Test.YtebinaopncclgabGreatDoorDBeg
namespace Go.Proofs.YtebinaopncclgabGreatDoor
open Go.RowKit Go.IntWalk

def countedS (r : Rd) (l : List UInt8) : Int :=
  if textFaultS r.stops.length l ≠ 0 then textFaultS r.stops.length l
  else if r.vans < ((routesS l).length : Int) then 8
  else if (routesS l).all (loadOk r) = false then 9
  else 0
theorem routes_fine {r : Rd} {s : ByteArray} (hn : r.stops.length ≤ 7) (hf : textFaultS r.stops.length s.data.toList = 0) : s.size ≤ 1000 ∧ (routesS s.data.toList).length ≤ 1000 ∧ ∀ l ∈ routesS s.data.toList, (2 ≤ l.length ∧ l.length ≤ 1000) ∧ (∀ x ∈ l, 0 ≤ x ∧ x < (r.stops.length : Int) + 1) ∧ (∀ j, j + 2 < l.length → l.getD (j + 1) 0 ≠ 0) ∧ l.getD 0 0 = 0 ∧ l.getD (l.length - 1) 0 = 0 := by
  obtain ⟨hsz, hpl, _⟩ := fine_size hf
  have hz : s.data.toList.length = s.size := by simp
  refine ⟨by omega, by have h1 := routes_count s.data.toList; omega, fun l hl => ?_⟩
  have hsh := routes_shape hpl l hl
  have h1 := hsh.sites
  obtain ⟨mid, rfl, h3, h4⟩ := hsh
  refine ⟨⟨by simp, by omega⟩, h1.2.1, h1.2.2, rfl, ?_⟩
  rw [List.getD_eq_getElem?_getD]
  simp

set_option maxRecDepth 100000 in
set_option maxHeartbeats 4000000 in
theorem counted_any (r : Rd) (s : ByteArray) (vs vr vw : Value) (w : World) (hok : RdOk r) (hs : StR w vs r) (hpl : isPlanS r.stops.length s.data.toList = true) (hsz : s.size ≤ 2000000) (hvr : ∃ ao n c, vr = .slice ao n c) (hvw : ∃ ao n c, vw = .slice ao n c) :
    Calls Tryz.prog 107 #[.agg (ground r vs vr vw), .string s] w fun e w' => e = .returned (.int .i64 (countedS r s.data.toList)) ∧ Below w.heap.size w w' := by
  obtain ⟨W, hW⟩ : ∃ W, W = w.alloc (.cells (ground r vs vr vw) 109) := ⟨_, rfl⟩
  obtain ⟨hbW, hbox, k0, k1, k2, k3, k4, k5, k6, k7⟩ := ground_box hW
  have HBW := hid hbW
  have HS := hid (hs.below hbW)
  have hn := hok.nstops
  have HOF : Hid (∀ d, d ≤ 10 → ∀ W', Calls Tryz.prog 172 #[.string s, .int .i64 (d : Nat)] W' fun e w' => e = .returned (.int .i64 (cntS s.data.toList d)) ∧ w' = W') := fun d hd W' => often_any d s W' hd hsz
  have HCN : Hid (∀ d, cntS s.data.toList d ≤ 2000000) := fun d => Nat.le_trans (cnt_le _ _) (by simpa using hsz)
  have HPL := hid hpl
  obtain ⟨ast, cs, rfl, _⟩ := hs
  have hvr' := hvr
  have hvw' := hvw
  obtain ⟨a1, n1, c1, rfl⟩ := hvr
  obtain ⟨a2, n2, c2, rfl⟩ := hvw
  have HWA : Hid (∀ (l : List Int) (gi ci : Nat) (W' : World), Below W.heap.size W W' → gi < W'.heap.size → (∀ j (hj : j < l.length), W'.cell? ⟨gi, j, none⟩ = some (.int .i64 l[j])) → l.length ≤ 1000 → (∀ x ∈ l, 0 ≤ x ∧ x < r.stops.length + 1) →
      Calls Tryz.prog 173 #[.agg (ground r (.slice ast r.stops.length cs) (.slice a1 n1 c1) (.slice a2 n2 c2)), .slice (some ⟨gi, 0, none⟩) l.length ci] W' fun e w' => e = .returned (.int .i64 (wantTo r l)) ∧ Below W'.heap.size W' w') :=
    fun l gi ci W' hb hg hrow hll hx => wants_any r l _ _ _ gi ci W' hok (HS.out.below hb) hg hrow hll hx hvr' hvw'
  have HOK := hid hok
  have hvn : 0 ≤ r.vans ∧ r.vans ≤ 10000 := by
    have := hok.head
    simp only [headOk, Bool.and_eq_true, fit_iff, decide_eq_true_eq] at this
    omega
  have hld : 0 ≤ r.load ∧ r.load ≤ 10000 := by
    have := hok.head
    simp only [headOk, Bool.and_eq_true, fit_iff, decide_eq_true_eq] at this
    omega
  have HWQ := hid hW
  clear hW hbW hok hpl hvr' hvw' HS
  unfold ground at *
  go_enter Tryz.func107, Tryz.ntmps107
  go_wp2_with fail
  rw [← HWQ.out]
  go_loop [6, 7] (fun lf k => ∃ (p : Nat) (b : Bool), p ≤ r.stops.length ∧ k = .int .i64 (p + 1 : Nat) ∧ lf = .bool b ∧ Hid (∀ d, d < p → cntS s.data.toList (d + 1) ≤ 1) ∧ Hid (b = (List.range p).any fun d => decide (cntS s.data.toList (d + 1) = 0))) (fun _ k => r.stops.length + 1 - (intOf k).toNat)
  case atStart => exact ⟨0, false, Nat.zero_le _, rfl, rfl, fun d hd => absurd hd (by omega), rfl⟩
  case round =>
    obtain ⟨p, b, hp, rfl, rfl, HT, HL⟩ := hrel
    by_cases hlt : p < r.stops.length
    · have HC := hid (HOF.out (p + 1) (by omega) W)
      have hcb := HCN.out (p + 1)
      by_cases hgt : 1 < cntS s.data.toList (p + 1)
      · have HF : Hid (countedS r s.data.toList = 6) := by
          have h6 : textFaultS r.stops.length s.data.toList = 6 := by
            unfold textFaultS
            rw [if_neg (by rw [HPL.out]; simp), if_pos]
            exact List.any_eq_true.2 ⟨p, by simp [hlt], by simpa using hgt⟩
          show _ = _
          unfold countedS
          rw [h6]; rfl
        generalize cntS s.data.toList (p + 1) = c at *
        go_wp2_with (go_at_call 172; refine HC.out.mono ?_; rintro e1 w1 ⟨he1, hw1⟩; subst he1; rw [hw1]; clear hw1 w1)
        go_ret
        exact ⟨ret_int HF.out.symm, HBW.out⟩
      · have HT2 : Hid (∀ d, d < p + 1 → cntS s.data.toList (d + 1) ≤ 1) := fun d hd => by
          by_cases h : d = p
          · subst h; omega
          · exact HT.out d (by omega)
        have HL2 : Hid ((b || decide (cntS s.data.toList (p + 1) = 0)) = (List.range (p + 1)).any fun d => decide (cntS s.data.toList (d + 1) = 0)) := by
          show _ = _
          rw [HL.out, List.range_succ, List.any_append]; simp
        generalize cntS s.data.toList (p + 1) = c at *
        clear HT HL
        cases b
        · by_cases hc0 : c = 0
          · subst hc0
            go_wp2_with (go_at_call 172; refine HC.out.mono ?_; rintro e1 w1 ⟨he1, hw1⟩; subst he1; rw [hw1]; clear hw1 w1)
            go_round
            case rel => exact ⟨p + 1, true, by omega, by go_num, rfl, HT2, by show _ = _; rw [← HL2.out]; rfl⟩
            case measure => simp [intOf]; omega
          · have hc1 : c = 1 := by omega
            subst hc1
            go_wp2_with (go_at_call 172; refine HC.out.mono ?_; rintro e1 w1 ⟨he1, hw1⟩; subst he1; rw [hw1]; clear hw1 w1)
            go_round
            case rel => exact ⟨p + 1, false, by omega, by go_num, rfl, HT2, by show _ = _; rw [← HL2.out]; rfl⟩
            case measure => simp [intOf]; omega
        · go_wp2_with (go_at_call 172; refine HC.out.mono ?_; rintro e1 w1 ⟨he1, hw1⟩; subst he1; rw [hw1]; clear hw1 w1)
          go_round
          case rel => exact ⟨p + 1, true, by omega, by go_num, rfl, HT2, by show _ = _; rw [← HL2.out]; rfl⟩
          case measure => simp [intOf]; omega
    · have hpe : p = r.stops.length := by omega
      have HN6 : Hid (((List.range r.stops.length).any fun d => decide (1 < cntS s.data.toList (d + 1))) = false) := by
        show _ = _
        rw [List.any_eq_false]
        intro d hd
        have := HT.out d (by rw [hpe]; simpa using hd)
        simpa using this
      have HB7 : Hid (((List.range r.stops.length).any fun d => decide (cntS s.data.toList (d + 1) = 0)) = b) := by show _ = _; rw [HL.out, hpe]
      clear HT HL hpe
      cases b
      · have hf0 : textFaultS r.stops.length s.data.toList = 0 := by
          unfold textFaultS
          rw [if_neg (by rw [HPL.out]; simp), if_neg (by rw [HN6.out]; simp), if_neg (by rw [HB7.out]; simp)]
        obtain ⟨hs1, hlen, hrt⟩ := routes_fine hn hf0
        have HRT := hid hrt
        have HC2 : Hid (∀ W', Calls Tryz.prog 108 #[.string s] W' fun e w' => ∃ v vs, e = .returned v ∧ Rts w' W'.heap.size w'.heap.size v (routesS s.data.toList) vs ∧ Below W'.heap.size W' w') := fun W' => rroutes_any s W' hs1
        have HJ : Hid (countedS r s.data.toList = if r.vans < ((routesS s.data.toList).length : Int) then 8 else if (routesS s.data.toList).all (loadOk r) = false then 9 else 0) := by show _ = _; unfold countedS; rw [if_neg (by rw [hf0]; simp)]
        generalize routesS s.data.toList = L at *
        clear hf0 hrt HN6 HB7 HPL HOF HCN
        by_cases hv : r.vans < (L.length : Int)
        · have HA : Hid (countedS r s.data.toList = 8) := by show _ = _; rw [HJ.out, if_pos hv]
          go_wp2_with (first
            | (go_at_call 108; refine (HC2.out _).mono ?_; rintro e2 w2 ⟨v2, vs2, rfl, hr2, hb2⟩; have HB2 := hid hb2; obtain ⟨al, cl, rfl, _⟩ := hr2.read hlen; have d0 : w2.cell? _ = _ := (hb2.cell (by exact hbox)).trans k0; have hpw2 : w.heap.size < w2.heap.size := Nat.lt_of_lt_of_le hbox hb2.size; clear hr2 hb2)
            | go_in)
          go_ret
          exact ⟨ret_int HA.out.symm, HBW.out.trans (HB2.out.mono HBW.out.size)⟩
        · have HJ2 : Hid (countedS r s.data.toList = if L.all (loadOk r) = false then 9 else 0) := by show _ = _; rw [HJ.out, if_neg hv]
          clear HJ
          go_wp2_with (first
            | (go_at_call 108; refine (HC2.out _).mono ?_; rintro e2 w2 ⟨v2, vs2, rfl, hr2, hb2⟩; have HB2 := hid hb2; have HRR := hid (hr2.read hlen); obtain ⟨al, cl, rfl, _⟩ := hr2.read hlen; have d0 : w2.cell? _ = _ := (hb2.cell (by exact hbox)).trans k0; have hpw2 : w.heap.size < w2.heap.size := Nat.lt_of_lt_of_le hbox hb2.size; clear hr2 hb2)
            | go_in)
          clear d0
          go_loopw [10] (fun i wr => ∃ a : Nat, a ≤ L.length ∧ i = .int .i64 a ∧ Hid ((L.take a).all (loadOk r) = true) ∧ Hid (Below w2.heap.size w2 wr)) (fun i _ => L.length - (intOf i).toNat)
          case atStart => exact ⟨0, Nat.zero_le _, rfl, rfl, Below.refl _ _⟩
          case round =>
            obtain ⟨a, ha, rfl, HA, HB⟩ := hrel
            have HBB : Hid (Below W.heap.size W wr) := HB2.out.trans (HB.out.mono HB2.out.size)
            by_cases hlt : a < L.length
            · obtain ⟨ao, co, hv2, _, hrt⟩ := HRR.out
              cases hv2
              obtain ⟨g, gi, ci, e, hg, hc, hgi, hrow⟩ := hrt a hlt
              cases e
              obtain ⟨l, hl⟩ : ∃ l, l = L[a] := ⟨_, rfl⟩
              have hmem : l ∈ L := by rw [hl]; exact List.getElem_mem _
              have hfl := HRT.out l hmem
              rw [← hl] at hc
              have hc : wr.cell? ⟨g, a, none⟩ = _ := (HB.out.cell (by exact hg)).trans hc
              have hgw : g < wr.heap.size := Nat.lt_of_lt_of_le hg HB.out.size
              have hga : gi < wr.heap.size := Nat.lt_of_lt_of_le hgi HB.out.size
              have hrw : ∀ j (hj : j < l.length), wr.cell? ⟨gi, j, none⟩ = some (.int .i64 l[j]) := fun j hj => (HB.out.cell (by exact hgi)).trans (by subst hl; exact hrow j hj)
              have HC3 : Hid (∀ W', Below wr.heap.size wr W' → _) := fun W' hb' => HWA.out l gi ci W' (HBB.out.trans (hb'.mono HBB.out.size)) (Nat.lt_of_lt_of_le hga hb'.size) (fun j hj => (hb'.cell (by exact hga)).trans (hrw j hj)) hfl.1.2 hfl.2.1
              have ik : (0 : Int) ≤ (a : Int) := by omega
              have jk : (a : Int) < (L.length : Int) := by omega
              clear hrw
              have HT : Hid ((L.take (a + 1)).all (loadOk r) = loadOk r l) := by
                show _ = _
                rw [List.take_succ_eq_append_getElem hlt, List.all_append, HA.out, ← hl]; simp
              have HNO : Hid (loadOk r l = false → countedS r s.data.toList = 9) := fun h => by rw [HJ2.out, if_pos (List.all_eq_false.2 ⟨l, hmem, by rw [h]; simp⟩)]
              have q0 : wr.cell? _ = _ := (HBB.out.cell (by exact hbox)).trans k0
              have q1 : wr.cell? _ = _ := (HBB.out.cell (by exact hbox)).trans k1
              have q2 : wr.cell? _ = _ := (HBB.out.cell (by exact hbox)).trans k2
              have q3 : wr.cell? _ = _ := (HBB.out.cell (by exact hbox)).trans k3
              have q4 : wr.cell? _ = _ := (HBB.out.cell (by exact hbox)).trans k4
              have q5 : wr.cell? _ = _ := (HBB.out.cell (by exact hbox)).trans k5
              have q6 : wr.cell? _ = _ := (HBB.out.cell (by exact hbox)).trans k6
              have q7 : wr.cell? _ = _ := (HBB.out.cell (by exact hbox)).trans k7
              have hbw : w.heap.size < wr.heap.size := Nat.lt_of_lt_of_le hbox HBB.out.size
              clear hrow hrt hl hmem hfl
              by_cases hgt : r.load < wantTo r l
              · have HX : Hid (countedS r s.data.toList = 9) := HNO.out (by unfold loadOk; simpa using hgt)
                generalize wantTo r l = T at *
                go_wp2_with fail
                go_region_held3 (fun w' => w'.cell? ⟨w.heap.size, 0, none⟩ = some (.int .i64 r.vans) ∧ w'.cell? ⟨w.heap.size, 1, none⟩ = some (.int .i64 r.load) ∧ w'.cell? ⟨w.heap.size, 2, none⟩ = some (.int .i64 r.close) ∧ w'.cell? ⟨w.heap.size, 3, none⟩ = some (.int .i64 r.nodes) ∧ w'.cell? ⟨w.heap.size, 4, none⟩ = some (.int .i64 r.home) ∧ w'.cell? ⟨w.heap.size, 5, none⟩ = some (.slice ast r.stops.length cs) ∧ w'.cell? ⟨w.heap.size, 6, none⟩ = some (.slice a1 n1 c1) ∧ w'.cell? ⟨w.heap.size, 7, none⟩ = some (.slice a2 n2 c2) ∧ w'.cell? ⟨g, a, none⟩ = some (.slice (some ⟨gi, 0, none⟩) l.length ci)) (go_keep)
                  (first
                    | (go_at_call 173; refine (HC3.out _ ((Below.refl _ _).drew)).mono ?_; rintro e3 w3 ⟨rfl, hb3⟩; have hw3 : Below wr.heap.size wr w3 := ⟨hb3.os, hb3.tape, hb3.output, hb3.size, hb3.block⟩; have m0 := (hw3.cell (p := ⟨w.heap.size, 0, none⟩) (by exact hbw)).trans q0; have m1 := (hw3.cell (p := ⟨w.heap.size, 1, none⟩) (by exact hbw)).trans q1; have m2 := (hw3.cell (p := ⟨w.heap.size, 2, none⟩) (by exact hbw)).trans q2; have m3 := (hw3.cell (p := ⟨w.heap.size, 3, none⟩) (by exact hbw)).trans q3; have m4 := (hw3.cell (p := ⟨w.heap.size, 4, none⟩) (by exact hbw)).trans q4; have m5 := (hw3.cell (p := ⟨w.heap.size, 5, none⟩) (by exact hbw)).trans q5; have m6 := (hw3.cell (p := ⟨w.heap.size, 6, none⟩) (by exact hbw)).trans q6; have m7 := (hw3.cell (p := ⟨w.heap.size, 7, none⟩) (by exact hbw)).trans q7; have m8 := (hw3.cell (p := ⟨g, a, none⟩) (by exact hgw)).trans hc; have hbw3 : w.heap.size < w3.heap.size := Nat.lt_of_lt_of_le hbw hw3.size; have HW3 := hid hw3; clear hw3 hb3))
                clear m0 m2 m3 m4 m5 m6 m7 m8
                go_wp2_with go_in
                go_ret
                exact ⟨ret_int HX.out.symm, (HBW.out.trans (HBB.out.mono HBW.out.size)).trans (HW3.out.mono (Nat.le_trans HBW.out.size HBB.out.size))⟩
              · have HX : Hid (loadOk r l = true) := by show _ = _; unfold loadOk; simpa using hgt
                generalize wantTo r l = T at *
                go_wp2_with fail
                go_region_held3 (fun w' => w'.cell? ⟨w.heap.size, 0, none⟩ = some (.int .i64 r.vans) ∧ w'.cell? ⟨w.heap.size, 1, none⟩ = some (.int .i64 r.load) ∧ w'.cell? ⟨w.heap.size, 2, none⟩ = some (.int .i64 r.close) ∧ w'.cell? ⟨w.heap.size, 3, none⟩ = some (.int .i64 r.nodes) ∧ w'.cell? ⟨w.heap.size, 4, none⟩ = some (.int .i64 r.home) ∧ w'.cell? ⟨w.heap.size, 5, none⟩ = some (.slice ast r.stops.length cs) ∧ w'.cell? ⟨w.heap.size, 6, none⟩ = some (.slice a1 n1 c1) ∧ w'.cell? ⟨w.heap.size, 7, none⟩ = some (.slice a2 n2 c2) ∧ w'.cell? ⟨g, a, none⟩ = some (.slice (some ⟨gi, 0, none⟩) l.length ci)) (go_keep)
                  (first
                    | (go_at_call 173; refine (HC3.out _ ((Below.refl _ _).drew)).mono ?_; rintro e3 w3 ⟨rfl, hb3⟩; have hw3 : Below wr.heap.size wr w3 := ⟨hb3.os, hb3.tape, hb3.output, hb3.size, hb3.block⟩; have m0 := (hw3.cell (p := ⟨w.heap.size, 0, none⟩) (by exact hbw)).trans q0; have m1 := (hw3.cell (p := ⟨w.heap.size, 1, none⟩) (by exact hbw)).trans q1; have m2 := (hw3.cell (p := ⟨w.heap.size, 2, none⟩) (by exact hbw)).trans q2; have m3 := (hw3.cell (p := ⟨w.heap.size, 3, none⟩) (by exact hbw)).trans q3; have m4 := (hw3.cell (p := ⟨w.heap.size, 4, none⟩) (by exact hbw)).trans q4; have m5 := (hw3.cell (p := ⟨w.heap.size, 5, none⟩) (by exact hbw)).trans q5; have m6 := (hw3.cell (p := ⟨w.heap.size, 6, none⟩) (by exact hbw)).trans q6; have m7 := (hw3.cell (p := ⟨w.heap.size, 7, none⟩) (by exact hbw)).trans q7; have m8 := (hw3.cell (p := ⟨g, a, none⟩) (by exact hgw)).trans hc; have hbw3 : w.heap.size < w3.heap.size := Nat.lt_of_lt_of_le hbw hw3.size; have HW3 := hid hw3; clear hw3 hb3))
                clear m0 m2 m3 m4 m5 m6 m7 m8
                go_wp2_with go_in
                go_roundw
                case rel => exact ⟨a + 1, by omega, by go_num, by show _ = true; rw [HT.out]; exact HX.out, HB.out.trans (HW3.out.mono HB.out.size)⟩
                case measure => simp [intOf]; omega
            · have HX : Hid (countedS r s.data.toList = 0) := by
                show _ = _
                rw [HJ2.out, if_neg]
                have := HA.out
                rw [List.take_of_length_le (by omega)] at this
                rw [this]; simp
              go_wp2
              go_ret
              exact ⟨ret_int HX.out.symm, HBW.out.trans (HBB.out.mono HBW.out.size)⟩
      · have HF : Hid (countedS r s.data.toList = 7) := by
          have h7 : textFaultS r.stops.length s.data.toList = 7 := by
            unfold textFaultS
            rw [if_neg (by rw [HPL.out]; simp), if_neg (by rw [HN6.out]; simp), if_pos HB7.out]
          show _ = _
          unfold countedS
          rw [h7]; rfl
        go_wp2
        go_ret
        exact ⟨ret_int HF.out.symm, HBW.out⟩
end Go.Proofs.YtebinaopncclgabGreatDoor
namespace Go.Proofs.YtebinaopncclgabGreatDoor
open Go.RowKit Go.IntWalk

theorem rtTo_nonneg {r : Rd} {D : Nat → Nat → Int} {l : List Int} (hD : ∀ a b, a < r.stops.length + 1 → b < r.stops.length + 1 → -1 ≤ D a b ∧ D a b ≤ 40960000) (hx : ∀ x ∈ l, 0 ≤ x ∧ x < (r.stops.length : Int) + 1) (hw : wayOk D l = true) : ∀ q, q ≤ l.length - 1 → 0 ≤ rtTo D l q ∧ rtTo D l q ≤ (q : Int) * 40960000 := by
  intro q
  induction q with
  | zero => intro _; simp [rtTo]
  | succ q ih =>
    intro hq
    have h1 := ih (by omega)
    have h2 := List.all_eq_true.1 hw q (by simp; omega)
    have h3 : legD D l q ≠ -1 := by simpa using h2
    have hs1 := getD_site hx (show q < l.length by omega)
    have hs2 := getD_site hx (show q + 1 < l.length by omega)
    have h4 : -1 ≤ legD D l q ∧ legD D l q ≤ 40960000 := hD _ _ (by omega) (by omega)
    rw [rtTo_succ]; omega
theorem judge_counted {r : Rd} {D : Nat → Nat → Int} {l : List UInt8} (_hp : isPlanS r.stops.length l = true) (h : countedS r l ≠ 0) : judgeS r D l = (0, none, countedS r l) := by
  unfold countedS at h ⊢
  unfold judgeS
  by_cases h1 : textFaultS r.stops.length l ≠ 0
  · rw [if_pos h1, if_pos h1]
  · rw [if_neg h1] at h ⊢
    rw [if_neg h1]
    by_cases h2 : r.vans < ((routesS l).length : Int)
    · rw [if_pos h2, if_pos h2]
    · rw [if_neg h2] at h ⊢
      rw [if_neg h2]
      by_cases h3 : (routesS l).all (loadOk r) = false
      · rw [if_pos h3, if_pos h3]
      · rw [if_neg h3] at h; exact absurd rfl h
theorem judge_fine {r : Rd} {D : Nat → Nat → Int} {l : List UInt8} (h : countedS r l = 0) : textFaultS r.stops.length l = 0 ∧ judgeS r D l = if (routesS l).all (wayOk D) = false then ((0 : Int), (none : Option (List Int)), (10 : Int)) else match timesS r D (routesS l) (List.replicate r.stops.length 0) with
    | none => (0, none, 11)
    | some S => (lenTo D (routesS l), some S, 0) := by
  unfold countedS at h
  unfold judgeS
  by_cases h1 : textFaultS r.stops.length l ≠ 0
  · rw [if_pos h1] at h; exact absurd h h1
  · rw [if_neg h1] at h ⊢
    by_cases h2 : r.vans < ((routesS l).length : Int)
    · rw [if_pos h2] at h; cases h
    · rw [if_neg h2] at h ⊢
      by_cases h3 : (routesS l).all (loadOk r) = false
      · rw [if_pos h3] at h; cases h
      · rw [if_neg h3]; exact ⟨by omega, rfl⟩

set_option maxRecDepth 100000 in
set_option maxHeartbeats 8000000 in
theorem gjudge_any (r : Rd) (D : Nat → Nat → Int) (s : ByteArray) (vs vr vw : Value) (w : World) (hok : RdOk r) (hs : StR w vs r) (hq : SqR w vw (r.stops.length + 1) D) (hD : ∀ a b, a < r.stops.length + 1 → b < r.stops.length + 1 → -1 ≤ D a b ∧ D a b ≤ 40960000) (hsz : s.size ≤ 2000000) (hvr : ∃ ao n c, vr = .slice ao n c) :
    Calls Tryz.prog 58 #[.agg (ground r vs vr vw), .string s] w (JudgeLeft w r.stops.length (judgeS r D s.data.toList)) := by
  obtain ⟨i0, hi, hz0, hz1, hz2⟩ := info_parts Tryz.infoInt
  obtain ⟨W, hW⟩ : ∃ W, W = w.alloc (.cells (ground r vs vr vw) 109) := ⟨_, rfl⟩
  obtain ⟨hbW, hbox, k0, k1, k2, k3, k4, k5, k6, k7⟩ := ground_box hW
  have HBW := hid hbW
  have hn := hok.nstops
  have HPN : Hid (Calls Tryz.prog 106 #[.string s, .int .i64 r.stops.length] W fun e w' => e = .returned (.bool (isPlanS r.stops.length s.data.toList)) ∧ Below W.heap.size W w') := by
    have h := planned_any r.stops.length s W hn hsz
    rw [planned_plan] at h; exact h
  have HS := hid (hs.below hbW)
  have HQ := hid (hq.below hbW)
  have hvw : ∃ ao n c, vw = .slice ao n c := by obtain ⟨a, c, e, _⟩ := hq; exact ⟨a, _, c, e⟩
  have hvs : ∃ ao c, vs = .slice ao r.stops.length c := by obtain ⟨a, c, e, _⟩ := hs; exact ⟨a, c, e⟩
  obtain ⟨ast, cs, rfl⟩ := hvs
  have HCT : Hid (∀ W', Below W.heap.size W W' → isPlanS r.stops.length s.data.toList = true → Calls Tryz.prog 107 #[.agg (ground r (.slice ast r.stops.length cs) vr vw), .string s] W' fun e w' => e = .returned (.int .i64 (countedS r s.data.toList)) ∧ Below W'.heap.size W' w') := fun W' hb hp => counted_any r s _ _ _ W' hok (HS.out.below hb) hp hsz hvr hvw
  have HLG : Hid (∀ (l : List Int) (gi ci : Nat) (W' : World), Below W.heap.size W W' → gi < W'.heap.size → (∀ j (hj : j < l.length), W'.cell? ⟨gi, j, none⟩ = some (.int .i64 l[j])) → l.length ≤ 1000 → (∀ x ∈ l, 0 ≤ x ∧ x < r.stops.length + 1) →
      Calls Tryz.prog 109 #[.agg (ground r (.slice ast r.stops.length cs) vr vw), .slice (some ⟨gi, 0, none⟩) l.length ci] W' fun e w' => e = .returned (.int .i64 (lengthS D l)) ∧ Below W'.heap.size W' w') :=
    fun l gi ci W' hb hg hrow hll hx => rlength_any r D l _ _ _ gi ci W' (HQ.out.below hb) hD hg hrow hll hx ⟨_, _, _, rfl⟩ hvr
  have HBG : Hid (∀ (l : List Int) (gi ci : Nat) (w0 : World), Below W.heap.size W w0 → gi < w0.heap.size → (∀ j (hj : j < l.length), w0.cell? ⟨gi, j, none⟩ = some (.int .i64 l[j])) → l.length ≤ 1000 → (∀ x ∈ l, 0 ≤ x ∧ x < r.stops.length + 1) → l.getD 0 0 = 0 → ∀ i : Nat, i < l.length → (∀ q, q < i → (begS r D l q).2 = false) → ∀ W', Below w0.heap.size w0 W' →
      Calls Tryz.prog 110 #[.agg (ground r (.slice ast r.stops.length cs) vr vw), .slice (some ⟨gi, 0, none⟩) l.length ci, .int .i64 i] W' fun e w' => e = .returned (.tuple #[.int .i64 (begS r D l i).1, .bool (begS r D l i).2]) ∧ Below W'.heap.size W' w') :=
    fun l gi ci w0 hb hg hrow hll hx h0 => begun_any r D l _ _ _ gi ci w0 hok (HS.out.below hb) (HQ.out.below hb) hD hg hrow hll hx h0 hvr
  have HBND : Hid (∀ l : List Int, (∀ x ∈ l, 0 ≤ x ∧ x < (r.stops.length : Int) + 1) → ∀ i, i < l.length → -(i : Int) ≤ (begS r D l i).1 ∧ (begS r D l i).1 ≤ (i : Int) * 40980000) := fun l hx => beg_bound hok hD hx
  have HRN : Hid (∀ l : List Int, (∀ x ∈ l, 0 ≤ x ∧ x < (r.stops.length : Int) + 1) → wayOk D l = true → 0 ≤ rtTo D l (l.length - 1) ∧ rtTo D l (l.length - 1) ≤ ((l.length - 1 : Nat) : Int) * 40960000) := fun l hx hw => rtTo_nonneg hD hx hw _ (Nat.le_refl _)
  obtain ⟨a1, n1, c1, rfl⟩ := hvr
  obtain ⟨a2, n2, c2, rfl⟩ := hvw
  have HWQ := hid hW
  have HK : Hid (W.cell? ⟨w.heap.size, 0, none⟩ = some (.int .i64 r.vans) ∧ W.cell? ⟨w.heap.size, 1, none⟩ = some (.int .i64 r.load) ∧ W.cell? ⟨w.heap.size, 2, none⟩ = some (.int .i64 r.close) ∧ W.cell? ⟨w.heap.size, 3, none⟩ = some (.int .i64 r.nodes) ∧ W.cell? ⟨w.heap.size, 4, none⟩ = some (.int .i64 r.home) ∧ W.cell? ⟨w.heap.size, 5, none⟩ = some (.slice ast r.stops.length cs) ∧ W.cell? ⟨w.heap.size, 6, none⟩ = some (.slice a1 n1 c1) ∧ W.cell? ⟨w.heap.size, 7, none⟩ = some (.slice a2 n2 c2)) := ⟨k0, k1, k2, k3, k4, k5, k6, k7⟩
  clear hW hbW hok hs hq hD k0 k1 k2 k3 k4 k5 k6 k7 HS HQ
  cases hpl : isPlanS r.stops.length s.data.toList
  · have HA : Hid (judgeS r D s.data.toList = (0, none, 5)) := by
      have h5 : textFaultS r.stops.length s.data.toList = 5 := by unfold textFaultS; rw [if_pos hpl]
      show _ = _
      unfold judgeS
      rw [h5]; rfl
    rw [hpl] at HPN
    generalize judgeS r D s.data.toList = ans at *
    unfold ground at *
    go_enter Tryz.func58, Tryz.ntmps58
    go_wp2_with (go_at_call 106; rw [← HWQ.out]; refine HPN.out.mono ?_; rintro e1 w1 ⟨rfl, hb1⟩)
    go_ret3
    rw [HA.out]
    exact ⟨_, rfl, fun _ => rfl, fun S e => (by cases e), HBW.out.trans (hb1.mono HBW.out.size)⟩
  · have HCT1 : Hid (∀ W', Below W.heap.size W W' → Calls Tryz.prog 107 #[.agg (ground r (.slice ast r.stops.length cs) (.slice a1 n1 c1) (.slice a2 n2 c2)), .string s] W' fun e w' => e = .returned (.int .i64 (countedS r s.data.toList)) ∧ Below W'.heap.size W' w') := fun W' hb => HCT.out W' hb hpl
    have HPL := hid hpl
    rw [hpl] at HPN
    clear HCT hpl
    by_cases hct : countedS r s.data.toList = 0
    · obtain ⟨hf0, hj⟩ := judge_fine (D := D) hct
      obtain ⟨hs1, hlen, hrt⟩ := routes_fine hn hf0
      have HRT := hid hrt
      have HC2 : Hid (∀ W', Calls Tryz.prog 108 #[.string s] W' fun e w' => ∃ v vs, e = .returned v ∧ Rts w' W'.heap.size w'.heap.size v (routesS s.data.toList) vs ∧ Below W'.heap.size W' w') := fun W' => rroutes_any s W' hs1
      have HJ := hid hj
      rw [hct] at HCT1
      generalize judgeS r D s.data.toList = ans at *
      generalize routesS s.data.toList = L at *
      clear hct hf0 hj hrt HPL
      unfold ground at *
      go_enter Tryz.func58, Tryz.ntmps58
      go_wp2_with (first
        | (go_at_call 106; rw [← HWQ.out]; refine HPN.out.mono ?_; rintro e1 w1 ⟨rfl, hb1⟩; have HB1 := hid hb1; clear hb1; obtain ⟨p0, p1, p2, p3, p4, p5, p6, p7⟩ := HK.out; have p0 : w1.cell? _ = _ := (HB1.out.cell (by exact hbox)).trans p0; have p1 : w1.cell? _ = _ := (HB1.out.cell (by exact hbox)).trans p1; have p2 : w1.cell? _ = _ := (HB1.out.cell (by exact hbox)).trans p2; have p3 : w1.cell? _ = _ := (HB1.out.cell (by exact hbox)).trans p3; have p4 : w1.cell? _ = _ := (HB1.out.cell (by exact hbox)).trans p4; have p5 : w1.cell? _ = _ := (HB1.out.cell (by exact hbox)).trans p5; have p6 : w1.cell? _ = _ := (HB1.out.cell (by exact hbox)).trans p6; have p7 : w1.cell? _ = _ := (HB1.out.cell (by exact hbox)).trans p7; have hbw1 : w.heap.size < w1.heap.size := Nat.lt_of_lt_of_le hbox HB1.out.size)
        | (go_at_call 107; refine (HCT1.out _ HB1.out).mono ?_; rintro e2 w2 ⟨rfl, hb2⟩; have HB2 : Hid (Below W.heap.size W w2) := HB1.out.trans (hb2.mono HB1.out.size); clear hb2)
        | (go_at_call 108; refine (HC2.out _).mono ?_; rintro e3 w3 ⟨v3, vs3, rfl, hr3, hb3⟩; have HB3 : Hid (Below W.heap.size W w3) := HB2.out.trans (hb3.mono HB2.out.size); have HRR := hid (hr3.read hlen); obtain ⟨al, cl, rfl, _⟩ := hr3.read hlen; clear hr3 hb3)
        | go_in)
      clear p0 p1 p2 p3 p4 p5 p6 p7 hbw1 HPN HCT1 HC2 HB1 HB2
      go_loopw [10, 11] (fun cv i wr => ∃ (a : Nat) (C : Int), a ≤ L.length ∧ i = .int .i64 a ∧ cv = .int .i64 C ∧ (0 ≤ C ∧ C ≤ (a : Int) * 40960000000) ∧ Hid (C = lenTo D (L.take a)) ∧ Hid ((L.take a).all (wayOk D) = true) ∧ Hid (Below w3.heap.size w3 wr)) (fun _ i _ => L.length - (intOf i).toNat)
      case atStart => exact ⟨0, 0, Nat.zero_le _, rfl, rfl, by omega, rfl, rfl, Below.refl _ _⟩
      case round =>
        obtain ⟨a, C, ha, rfl, rfl, hC, HC, HA, HB⟩ := hrel
        have HBB : Hid (Below W.heap.size W wr) := HB3.out.trans (HB.out.mono HB3.out.size)
        have hbw : w.heap.size < wr.heap.size := Nat.lt_of_lt_of_le hbox HBB.out.size
        have q0 : wr.cell? _ = _ := (HBB.out.cell (by exact hbox)).trans HK.out.1
        have q1 : wr.cell? _ = _ := (HBB.out.cell (by exact hbox)).trans HK.out.2.1
        have q2 : wr.cell? _ = _ := (HBB.out.cell (by exact hbox)).trans HK.out.2.2.1
        have q3 : wr.cell? _ = _ := (HBB.out.cell (by exact hbox)).trans HK.out.2.2.2.1
        have q4 : wr.cell? _ = _ := (HBB.out.cell (by exact hbox)).trans HK.out.2.2.2.2.1
        have q5 : wr.cell? _ = _ := (HBB.out.cell (by exact hbox)).trans HK.out.2.2.2.2.2.1
        have q6 : wr.cell? _ = _ := (HBB.out.cell (by exact hbox)).trans HK.out.2.2.2.2.2.2.1
        have q7 : wr.cell? _ = _ := (HBB.out.cell (by exact hbox)).trans HK.out.2.2.2.2.2.2.2

        by_cases hlt : a < L.length
        · obtain ⟨ao, co, hv2, _, hrt⟩ := HRR.out
          cases hv2
          obtain ⟨g, gi, ci, e, hg, hc, hgi, hrow⟩ := hrt a hlt
          cases e
          obtain ⟨l, hl⟩ : ∃ l, l = L[a] := ⟨_, rfl⟩
          have hmem : l ∈ L := by rw [hl]; exact List.getElem_mem _
          have hfl := HRT.out l hmem
          rw [← hl] at hc
          have hc : wr.cell? ⟨g, a, none⟩ = _ := (HB.out.cell (by exact hg)).trans hc
          have hgw : g < wr.heap.size := Nat.lt_of_lt_of_le hg HB.out.size
          have hga : gi < wr.heap.size := Nat.lt_of_lt_of_le hgi HB.out.size
          have hrw : ∀ j (hj : j < l.length), wr.cell? ⟨gi, j, none⟩ = some (.int .i64 l[j]) := fun j hj => (HB.out.cell (by exact hgi)).trans (by subst hl; exact hrow j hj)
          have HC3 : Hid (∀ W', Below wr.heap.size wr W' → _) := fun W' hb' => HLG.out l gi ci W' (HBB.out.trans (hb'.mono HBB.out.size)) (Nat.lt_of_lt_of_le hga hb'.size) (fun j hj => (hb'.cell (by exact hga)).trans (hrw j hj)) hfl.1.2 hfl.2.1
          have ik : (0 : Int) ≤ (a : Int) := by omega
          have jk : (a : Int) < (L.length : Int) := by omega
          clear hrw
          have HT : Hid ((L.take (a + 1)).all (wayOk D) = wayOk D l) := by
            show _ = _
            rw [List.take_succ_eq_append_getElem hlt, List.all_append, HA.out, ← hl]; simp
          have HT2 : Hid (lenTo D (L.take (a + 1)) = C + rtTo D l (l.length - 1)) := by
            show _ = _
            rw [List.take_succ_eq_append_getElem hlt, lenTo_snoc, ← HC.out, ← hl]
          have HNO : Hid (wayOk D l = false → ans = (0, none, 10)) := fun h => by rw [HJ.out, if_pos (List.all_eq_false.2 ⟨l, hmem, by rw [h]; simp⟩)]
          have HNN := hid (HRN.out l hfl.2.1)
          have hll := hfl.1.2
          clear hrow hrt hl hmem hfl
          cases hw : wayOk D l
          · have HX := hid (HNO.out hw)
            have hl1 : lengthS D l = -1 := by unfold lengthS; rw [hw]; rfl
            rw [hl1] at HC3
            clear hl1
            go_wp2_with fail
            go_region_held3 (fun w' => w'.cell? ⟨w.heap.size, 0, none⟩ = some (.int .i64 r.vans) ∧ w'.cell? ⟨w.heap.size, 1, none⟩ = some (.int .i64 r.load) ∧ w'.cell? ⟨w.heap.size, 2, none⟩ = some (.int .i64 r.close) ∧ w'.cell? ⟨w.heap.size, 3, none⟩ = some (.int .i64 r.nodes) ∧ w'.cell? ⟨w.heap.size, 4, none⟩ = some (.int .i64 r.home) ∧ w'.cell? ⟨w.heap.size, 5, none⟩ = some (.slice ast r.stops.length cs) ∧ w'.cell? ⟨w.heap.size, 6, none⟩ = some (.slice a1 n1 c1) ∧ w'.cell? ⟨w.heap.size, 7, none⟩ = some (.slice a2 n2 c2) ∧ w'.cell? ⟨g, a, none⟩ = some (.slice (some ⟨gi, 0, none⟩) l.length ci)) (go_keep)
              (first
                | (go_at_call 109; refine (HC3.out _ ((Below.refl _ _).drew)).mono ?_; rintro e3 w4 ⟨rfl, hb3⟩; have hw3 : Below wr.heap.size wr w4 := ⟨hb3.os, hb3.tape, hb3.output, hb3.size, hb3.block⟩; have m0 := (hw3.cell (p := ⟨w.heap.size, 0, none⟩) (by exact hbw)).trans q0; have m1 := (hw3.cell (p := ⟨w.heap.size, 1, none⟩) (by exact hbw)).trans q1; have m2 := (hw3.cell (p := ⟨w.heap.size, 2, none⟩) (by exact hbw)).trans q2; have m3 := (hw3.cell (p := ⟨w.heap.size, 3, none⟩) (by exact hbw)).trans q3; have m4 := (hw3.cell (p := ⟨w.heap.size, 4, none⟩) (by exact hbw)).trans q4; have m5 := (hw3.cell (p := ⟨w.heap.size, 5, none⟩) (by exact hbw)).trans q5; have m6 := (hw3.cell (p := ⟨w.heap.size, 6, none⟩) (by exact hbw)).trans q6; have m7 := (hw3.cell (p := ⟨w.heap.size, 7, none⟩) (by exact hbw)).trans q7; have m8 := (hw3.cell (p := ⟨g, a, none⟩) (by exact hgw)).trans hc; have HB4 := hid hw3; clear hw3 hb3))
            clear m0 m1 m2 m3 m4 m5 m6 m7 m8
            go_wp2_with go_in
            go_ret3
            rw [HX.out]
            exact ⟨_, rfl, fun _ => rfl, fun S e => (by cases e), (HBW.out.trans (HBB.out.mono HBW.out.size)).trans (HB4.out.mono (Nat.le_trans HBW.out.size HBB.out.size))⟩
          · have HX : Hid ((L.take (a + 1)).all (wayOk D) = true) := by show _ = _; rw [HT.out, hw]
            have hl1 : lengthS D l = rtTo D l (l.length - 1) := by unfold lengthS; rw [hw]; rfl
            have hnn := HNN.out hw
            have hnb : rtTo D l (l.length - 1) ≤ 40960000000 := by omega
            have hn0 := hnn.1
            rw [hl1] at HC3
            generalize rtTo D l (l.length - 1) = cc at *
            have e1 : (cc == (-1 : Int)) = false := by simp; omega
            clear hl1 hnn HNN hw HT
            go_wp2_with fail
            go_region_held3 (fun w' => w'.cell? ⟨w.heap.size, 0, none⟩ = some (.int .i64 r.vans) ∧ w'.cell? ⟨w.heap.size, 1, none⟩ = some (.int .i64 r.load) ∧ w'.cell? ⟨w.heap.size, 2, none⟩ = some (.int .i64 r.close) ∧ w'.cell? ⟨w.heap.size, 3, none⟩ = some (.int .i64 r.nodes) ∧ w'.cell? ⟨w.heap.size, 4, none⟩ = some (.int .i64 r.home) ∧ w'.cell? ⟨w.heap.size, 5, none⟩ = some (.slice ast r.stops.length cs) ∧ w'.cell? ⟨w.heap.size, 6, none⟩ = some (.slice a1 n1 c1) ∧ w'.cell? ⟨w.heap.size, 7, none⟩ = some (.slice a2 n2 c2) ∧ w'.cell? ⟨g, a, none⟩ = some (.slice (some ⟨gi, 0, none⟩) l.length ci)) (go_keep)
              (first
                | (go_at_call 109; refine (HC3.out _ ((Below.refl _ _).drew)).mono ?_; rintro e3 w4 ⟨rfl, hb3⟩; have hw3 : Below wr.heap.size wr w4 := ⟨hb3.os, hb3.tape, hb3.output, hb3.size, hb3.block⟩; have m0 := (hw3.cell (p := ⟨w.heap.size, 0, none⟩) (by exact hbw)).trans q0; have m1 := (hw3.cell (p := ⟨w.heap.size, 1, none⟩) (by exact hbw)).trans q1; have m2 := (hw3.cell (p := ⟨w.heap.size, 2, none⟩) (by exact hbw)).trans q2; have m3 := (hw3.cell (p := ⟨w.heap.size, 3, none⟩) (by exact hbw)).trans q3; have m4 := (hw3.cell (p := ⟨w.heap.size, 4, none⟩) (by exact hbw)).trans q4; have m5 := (hw3.cell (p := ⟨w.heap.size, 5, none⟩) (by exact hbw)).trans q5; have m6 := (hw3.cell (p := ⟨w.heap.size, 6, none⟩) (by exact hbw)).trans q6; have m7 := (hw3.cell (p := ⟨w.heap.size, 7, none⟩) (by exact hbw)).trans q7; have m8 := (hw3.cell (p := ⟨g, a, none⟩) (by exact hgw)).trans hc; have HB4 := hid hw3; clear hw3 hb3))
            clear m0 m1 m2 m3 m4 m5 m6 m7 m8
            go_wp2_with go_in
            go_roundw
            case rel => exact ⟨a + 1, C + cc, by omega, by go_num, rfl, by omega, HT2.out.symm, HX, HB.out.trans (HB4.out.mono HB.out.size)⟩
            case measure => simp [intOf]; omega
        · have hall : L.take a = L := List.take_of_length_le (by omega)
          have HJ2 : Hid (ans = match timesS r D L (List.replicate r.stops.length 0) with
            | none => (0, none, 11)
            | some S => (C, some S, 0)) := by
            show _ = _
            rw [HJ.out, if_neg (by have := HA.out; rw [hall] at this; rw [this]; simp), HC.out, hall]
          clear HJ HA HC hall
          go_wp2_with (first
            | (at_make; refine wpList_make_full _ rfl _ _ 40 rfl wr.heap.size 3 i0 (.int .i64 0) 1 Tryz.underlying40 hi hz0 hz1 .i64 .i64 _ _ r.stops.length rfl rfl ?m1 ?m2 ?m3 ?m4 ?m5 ?_)
            | go_in)
          case m1 => rfl
          case m2 => rfl
          case m3 => rw [hz2]; omega
          case m4 => unfold maxLen; omega
          case m5 => exact Nat.le_refl _
          intro w5 hown5 hgr5
          have HB5 : Hid (Below wr.heap.size wr w5) := (Below.refl _ _).grown hgr5 (Nat.le_refl _) (by simp)
          have HO5 : Hid (w5.ownsRow wr.heap.size 3 1 (.slice (some ⟨wr.heap.size, 0, none⟩) r.stops.length r.stops.length) r.stops.length (ints (List.replicate r.stops.length 0))) := by
            have e : (madeCells #[Value.int IntKind.i64 0] r.stops.length).toList = ints (List.replicate r.stops.length 0) := by rw [toList_madeCells_one]; simp [ints]
            show World.ownsRow _ _ _ _ _ _ _
            rw [← e]; exact hown5
          have HRR4 := hid (HRR.out.below HB.out)
          clear hown5 hgr5 q0 q1 q2 q3 q4 q5 q6 q7
          obtain ⟨Z, hZ⟩ : ∃ Z, Z = List.replicate r.stops.length (0 : Int) := ⟨_, rfl⟩
          have hZl : Z.length = r.stops.length := by rw [hZ]; simp
          rw [← hZ] at HO5 HJ2
          clear hZ
          obtain ⟨wb, hwb⟩ : ∃ wb, wb = wr := ⟨_, rfl⟩
          rw [← hwb] at HB5 HO5 HRR4 HBB HB hbw ⊢
          clear hwb
          go_wp2_with fail
          go_loopw [14] (fun i wx => ∃ (a : Nat) (S : List Int), a ≤ L.length ∧ i = .int .i64 a ∧ S.length = r.stops.length ∧ Hid (timesS r D (L.take a) Z = some S) ∧ Hid (wx.ownsRow wb.heap.size 3 1 (.slice (some ⟨wb.heap.size, 0, none⟩) r.stops.length r.stops.length) r.stops.length (ints S)) ∧ Hid (Below wb.heap.size wb wx)) (fun i _ => L.length - (intOf i).toNat)
          case atStart => exact ⟨0, Z, Nat.zero_le _, rfl, hZl, rfl, HO5, HB5⟩
          case round =>
            clear HO5 HB5
            obtain ⟨a, S, ha, rfl, hSl, HA, HO, HX5⟩ := hrel
            by_cases hlt : a < L.length
            · obtain ⟨ao, co, hv2, _, hrt⟩ := HRR4.out
              cases hv2
              obtain ⟨g, gi, ci, e, hg, hc, hgi, hrow⟩ := hrt a hlt
              cases e
              obtain ⟨l, hl⟩ : ∃ l, l = L[a] := ⟨_, rfl⟩
              have hmem : l ∈ L := by rw [hl]; exact List.getElem_mem _
              have hfl := HRT.out l hmem
              rw [← hl] at hc
              have HROW : Hid (∀ j (hj : j < l.length), wb.cell? ⟨gi, j, none⟩ = some (.int .i64 l[j])) := by
                intro j hj; subst hl; exact hrow j hj
              have HCL := hid hc
              have HBN := hid (HBND.out l hfl.2.1)
              have HSI := hid hfl.2.1
              have HIN := hid hfl.2.2.1
              have H0 := hid hfl.2.2.2.1
              have HZ := hid hfl.2.2.2.2
              have hl2 := hfl.1.1
              have hll := hfl.1.2
              have HCB := hid (HBG.out l gi ci wb HBB.out hgi HROW.out hfl.1.2 hfl.2.1 hfl.2.2.2.1)
              have HT : Hid (timesS r D (L.take (a + 1)) Z = timeS r D l S) := by
                show _ = _
                rw [List.take_succ_eq_append_getElem hlt, timesS_snoc, HA.out, ← hl]; rfl
              have HNO : Hid (timeS r D l S = none → ans = (0, none, 11)) := fun h => by
                have h1 := timesS_none r D (L.take (a + 1)) (L.drop (a + 1)) Z (by rw [HT.out, h])
                rw [List.take_append_drop] at h1
                rw [HJ2.out, h1]
              have hc : _root_.Go.World.cell? _ ⟨g, a, none⟩ = _ := (HX5.out.cell (by exact hg)).trans HCL.out
              have hgx := Nat.lt_of_lt_of_le hg HX5.out.size
              clear hrow hrt hl hmem hfl HA
              go_wp2_with go_in
              go_loopw [15] (fun j wx => ∃ (q : Nat) (S' : List Int), q ≤ l.length - 1 ∧ j = .int .i64 (q + 1 : Nat) ∧ S'.length = r.stops.length ∧ Hid (tmGo r D l S q = some ((begS r D l q).1 + stayS r l q, S')) ∧ Hid (∀ p, p ≤ q → (begS r D l p).2 = false) ∧ Hid (wx.ownsRow wb.heap.size 3 1 (.slice (some ⟨wb.heap.size, 0, none⟩) r.stops.length r.stops.length) r.stops.length (ints S')) ∧ Hid (Below wb.heap.size wb wx)) (fun j _ => l.length - (intOf j).toNat)
              case atStart =>
                refine ⟨0, S, Nat.zero_le _, rfl, hSl, ?_, fun p hp => ?_, HO, HX5⟩
                · show _ = _
                  rw [tmGo_zero]
                  have : stayS r l 0 = 0 := by unfold stayS; rw [H0.out]; rfl
                  rw [this]; rfl
                · have : p = 0 := by omega
                  subst this; rfl
              case round =>
                clear HO HX5 hc hgx
                obtain ⟨q, S', hq, rfl, hSl', HG, HNL, HO, HX5⟩ := hrel
                have HBB5 : Hid (Below W.heap.size W wr) := HBB.out.trans (HX5.out.mono HBB.out.size)
                have hbx : w.heap.size < wr.heap.size := Nat.lt_of_lt_of_le hbox HBB5.out.size
                have hc : wr.cell? ⟨g, a, none⟩ = _ := (HX5.out.cell (by exact hg)).trans HCL.out
                have hgx : g < wr.heap.size := Nat.lt_of_lt_of_le hg HX5.out.size
                have hix : gi < wr.heap.size := Nat.lt_of_lt_of_le hgi HX5.out.size
                have ik : (0 : Int) ≤ (a : Int) := by omega
                have jk : (a : Int) < (L.length : Int) := by omega
                by_cases hql : q + 1 < l.length
                · have q0 : wr.cell? _ = _ := (HBB5.out.cell (by exact hbox)).trans HK.out.1
                  have q1 : wr.cell? _ = _ := (HBB5.out.cell (by exact hbox)).trans HK.out.2.1
                  have q2 : wr.cell? _ = _ := (HBB5.out.cell (by exact hbox)).trans HK.out.2.2.1
                  have q3 : wr.cell? _ = _ := (HBB5.out.cell (by exact hbox)).trans HK.out.2.2.2.1
                  have q4 : wr.cell? _ = _ := (HBB5.out.cell (by exact hbox)).trans HK.out.2.2.2.2.1
                  have q5 : wr.cell? _ = _ := (HBB5.out.cell (by exact hbox)).trans HK.out.2.2.2.2.2.1
                  have q6 : wr.cell? _ = _ := (HBB5.out.cell (by exact hbox)).trans HK.out.2.2.2.2.2.2.1
                  have q7 : wr.cell? _ = _ := (HBB5.out.cell (by exact hbox)).trans HK.out.2.2.2.2.2.2.2
                  have HCC : Hid (∀ W', Below wr.heap.size wr W' → _) := fun W' hb' => HCB.out (q + 1) hql (fun p hp => HNL.out p (by omega)) W' (HX5.out.trans (hb'.mono HX5.out.size))
                  have hbn := HBN.out (q + 1) hql
                  have hqb : (q : Int) + 1 ≤ 1000 := by omega
                  have hgs := getD_site HSI.out hql
                  have HROWQ : Hid (wb.cell? ⟨gi, q + 1, none⟩ = some (.int .i64 (l.getD (q + 1) 0))) := by
                    show _ = _
                    rw [HROW.out (q + 1) hql, List.getD_eq_getElem?_getD, List.getElem?_eq_getElem hql]; rfl
                  have HLT : Hid ((begS r D l (q + 1)).2 = true → timeS r D l S = none) := fun h => beg_late HG.out (HNL.out q (Nat.le_refl _)) hql (fun x hx => (HSI.out x hx).1) HIN.out h
                  cases hlate : (begS r D l (q + 1)).2
                  · have HNL2 : Hid (∀ p, p ≤ q + 1 → (begS r D l p).2 = false) := fun p hp => by
                      by_cases h : p = q + 1
                      · subst h; exact hlate
                      · exact HNL.out p (by omega)
                    rw [hlate] at HCC
                    have HST1 : Hid (0 < l.getD (q + 1) 0 → tmGo r D l S (q + 1) = some ((begS r D l (q + 1)).1 + stayS r l (q + 1), S'.set ((l.getD (q + 1) 0).toNat - 1) (begS r D l (q + 1)).1)) := fun hp => by
                      rw [beg_stop HG.out (HNL.out q (Nat.le_refl _)) hp, hlate]; rfl
                    have HST0 : Hid (l.getD (q + 1) 0 = 0 → tmGo r D l S (q + 1) = some ((begS r D l (q + 1)).1 + stayS r l (q + 1), S')) := fun hz => (beg_home HG.out (HNL.out q (Nat.le_refl _)) hz).1
                    obtain ⟨t, ht⟩ : ∃ t, t = (begS r D l (q + 1)).1 := ⟨_, rfl⟩
                    have HTT := hid ht
                    rw [← ht] at HCC hbn
                    clear ht hlate HLT
                    obtain ⟨y, hy⟩ : ∃ y, y = l.getD (q + 1) 0 := ⟨_, rfl⟩
                    rw [← hy] at hgs HROWQ
                    have HYY := hid hy
                    clear hy
                    obtain ⟨yn, rfl⟩ : ∃ yn : Nat, y = yn := ⟨y.toNat, by omega⟩
                    go_wp2_with fail
                    go_region_held3 (fun w' => w'.cell? ⟨w.heap.size, 0, none⟩ = some (.int .i64 r.vans) ∧ w'.cell? ⟨w.heap.size, 1, none⟩ = some (.int .i64 r.load) ∧ w'.cell? ⟨w.heap.size, 2, none⟩ = some (.int .i64 r.close) ∧ w'.cell? ⟨w.heap.size, 3, none⟩ = some (.int .i64 r.nodes) ∧ w'.cell? ⟨w.heap.size, 4, none⟩ = some (.int .i64 r.home) ∧ w'.cell? ⟨w.heap.size, 5, none⟩ = some (.slice ast r.stops.length cs) ∧ w'.cell? ⟨w.heap.size, 6, none⟩ = some (.slice a1 n1 c1) ∧ w'.cell? ⟨w.heap.size, 7, none⟩ = some (.slice a2 n2 c2) ∧ w'.cell? ⟨g, a, none⟩ = some (.slice (some ⟨gi, 0, none⟩) l.length ci)) (go_keep)
                      (first
                        | (go_at_call 110; refine (HCC.out _ ((Below.refl _ _).drew)).mono ?_; rintro e3 w4 ⟨rfl, hb3⟩; have hw3 : Below wr.heap.size wr w4 := ⟨hb3.os, hb3.tape, hb3.output, hb3.size, hb3.block⟩; have m0 := (hw3.cell (p := ⟨w.heap.size, 0, none⟩) (by exact hbx)).trans q0; have m1 := (hw3.cell (p := ⟨w.heap.size, 1, none⟩) (by exact hbx)).trans q1; have m2 := (hw3.cell (p := ⟨w.heap.size, 2, none⟩) (by exact hbx)).trans q2; have m3 := (hw3.cell (p := ⟨w.heap.size, 3, none⟩) (by exact hbx)).trans q3; have m4 := (hw3.cell (p := ⟨w.heap.size, 4, none⟩) (by exact hbx)).trans q4; have m5 := (hw3.cell (p := ⟨w.heap.size, 5, none⟩) (by exact hbx)).trans q5; have m6 := (hw3.cell (p := ⟨w.heap.size, 6, none⟩) (by exact hbx)).trans q6; have m7 := (hw3.cell (p := ⟨w.heap.size, 7, none⟩) (by exact hbx)).trans q7; have m8 := (hw3.cell (p := ⟨g, a, none⟩) (by exact hgx)).trans hc; have HB4 := hid hw3; clear hw3 hb3))
                    clear m0 m1 m2 m3 m4 m5 m6 m7 q0 q1 q2 q3 q4 q5 q6 q7

                    have HB5 : Hid (Below wb.heap.size wb w4) := HX5.out.trans (HB4.out.mono HX5.out.size)
                    have HO4 : Hid (w4.ownsRow wb.heap.size 3 1 (.slice (some ⟨wb.heap.size, 0, none⟩) r.stops.length r.stops.length) r.stops.length (ints S')) := own_below HO.out HB4.out
                    have y0 : w4.cell? ⟨gi, q + 1, none⟩ = some (.int .i64 yn) := (HB5.out.cell (by exact hgi)).trans HROWQ.out
                    have hg4 : g < w4.heap.size := Nat.lt_of_lt_of_le hg HB5.out.size
                    have hi4 : gi < w4.heap.size := Nat.lt_of_lt_of_le hgi HB5.out.size
                    have iq1 : (0 : Int) ≤ (q : Int) + 1 := by omega
                    have jq1 : (q : Int) + 1 < (l.length : Int) := by omega
                    clear HO HX5 HBB5 HB4 hc hgx hix hbx HG HNL HCC
                    by_cases hz : yn = 0
                    · have HT2 : Hid (tmGo r D l S (q + 1) = some ((begS r D l (q + 1)).1 + stayS r l (q + 1), S')) := HST0.out (by rw [← HYY.out, hz]; rfl)
                      subst hz
                      go_wp2_with go_in
                      go_roundw
                      case rel => exact ⟨q + 1, S', by omega, by go_num, hSl', HT2, HNL2, by first | exact HO4.out | exact own_heap HO4.out rfl, by first | exact HB5.out | exact HB5.out.drew⟩
                      case measure => simp [intOf]; omega
                    · obtain ⟨m, rfl⟩ : ∃ m, yn = m + 1 := ⟨yn - 1, by omega⟩
                      have HT2 : Hid (tmGo r D l S (q + 1) = some ((begS r D l (q + 1)).1 + stayS r l (q + 1), S'.set m t)) := by
                        have h := HST1.out (by rw [← HYY.out]; omega)
                        rw [← HYY.out, ← HTT.out] at h
                        show _ = _
                        rw [h, HTT.out]; simp
                      have hfz := HO4.out.frozenAt m
                      have hol : w4.cell? ⟨wb.heap.size, m, none⟩ = some (.int .i64 (S'.getD m 0)) := by
                        rw [HO4.out.cellAt m (by omega)]
                        simp [ints, List.getD_eq_getElem?_getD, List.getElem?_eq_getElem (show m < S'.length by omega)]
                      have h0w : wb.heap.size < w4.heap.size := own_cells_int HO4.out
                      have im : (0 : Int) ≤ (m : Int) := by omega
                      have jm : (m : Int) < (r.stops.length : Int) := by omega
                      have hwm : IntKind.i64.wrap ((m : Int) + 1 - 1) = m := by rw [show (m : Int) + 1 - 1 = m by omega]; exact i64_fits _ (by omega)
                      have hwm2 : IntKind.i64.wrap (m : Int) = m := i64_fits _ (by omega)
                      clear HST1 HST0 hz
                      have HST2 := hid (HO4.out.stored m (.int .i64 t)).1
                      have HBS : Hid (Below wb.heap.size wb (w4.setCell ⟨wb.heap.size, m, none⟩ (.int .i64 t))) := HB5.out.setCell (Nat.le_refl _) _
                      have HIS : Hid ((ints S').set m (.int .i64 t) = ints (S'.set m t)) := by show _ = _; simp [ints, List.map_set]
                      go_wp2_with fail
                      go_roundw
                      case rel =>
                        refine ⟨q + 1, S'.set m t, by omega, by go_num, by simp [hSl'], HT2, HNL2, ?_, HBS⟩
                        show World.ownsRow _ _ _ _ _ _ _
                        rw [← HIS.out]; exact HST2.out
                      case measure => simp [intOf]; omega
                  · rw [hlate] at HCC
                    have HX := hid (HNO.out (HLT.out hlate))
                    clear hlate HLT HNO
                    obtain ⟨t, ht⟩ : ∃ t, t = (begS r D l (q + 1)).1 := ⟨_, rfl⟩
                    rw [← ht] at HCC hbn
                    clear ht
                    go_wp2_with fail
                    go_region_held3 (fun w' => w'.cell? ⟨w.heap.size, 0, none⟩ = some (.int .i64 r.vans) ∧ w'.cell? ⟨w.heap.size, 1, none⟩ = some (.int .i64 r.load) ∧ w'.cell? ⟨w.heap.size, 2, none⟩ = some (.int .i64 r.close) ∧ w'.cell? ⟨w.heap.size, 3, none⟩ = some (.int .i64 r.nodes) ∧ w'.cell? ⟨w.heap.size, 4, none⟩ = some (.int .i64 r.home) ∧ w'.cell? ⟨w.heap.size, 5, none⟩ = some (.slice ast r.stops.length cs) ∧ w'.cell? ⟨w.heap.size, 6, none⟩ = some (.slice a1 n1 c1) ∧ w'.cell? ⟨w.heap.size, 7, none⟩ = some (.slice a2 n2 c2) ∧ w'.cell? ⟨g, a, none⟩ = some (.slice (some ⟨gi, 0, none⟩) l.length ci)) (go_keep)
                      (first
                        | (go_at_call 110; refine (HCC.out _ ((Below.refl _ _).drew)).mono ?_; rintro e3 w4 ⟨rfl, hb3⟩; have hw3 : Below wr.heap.size wr w4 := ⟨hb3.os, hb3.tape, hb3.output, hb3.size, hb3.block⟩; have m0 := (hw3.cell (p := ⟨w.heap.size, 0, none⟩) (by exact hbx)).trans q0; have m1 := (hw3.cell (p := ⟨w.heap.size, 1, none⟩) (by exact hbx)).trans q1; have m2 := (hw3.cell (p := ⟨w.heap.size, 2, none⟩) (by exact hbx)).trans q2; have m3 := (hw3.cell (p := ⟨w.heap.size, 3, none⟩) (by exact hbx)).trans q3; have m4 := (hw3.cell (p := ⟨w.heap.size, 4, none⟩) (by exact hbx)).trans q4; have m5 := (hw3.cell (p := ⟨w.heap.size, 5, none⟩) (by exact hbx)).trans q5; have m6 := (hw3.cell (p := ⟨w.heap.size, 6, none⟩) (by exact hbx)).trans q6; have m7 := (hw3.cell (p := ⟨w.heap.size, 7, none⟩) (by exact hbx)).trans q7; have m8 := (hw3.cell (p := ⟨g, a, none⟩) (by exact hgx)).trans hc; have HB4 := hid hw3; clear hw3 hb3))
                    clear m0 m1 m2 m3 m4 m5 m6 m7 q0 q1 q2 q3 q4 q5 q6 q7

                    go_wp2_with go_in
                    go_ret3
                    rw [HX.out]
                    exact ⟨_, rfl, fun _ => rfl, fun S e => (by cases e), (HBW.out.trans (HBB5.out.mono HBW.out.size)).trans (HB4.out.mono (Nat.le_trans HBW.out.size HBB5.out.size))⟩

                · have hqe : q = l.length - 1 := by omega
                  have HF : Hid (timesS r D (L.take (a + 1)) Z = some S') := by
                    show _ = _
                    rw [HT.out]
                    exact beg_end (by rw [← hqe]; exact HG.out) hl2 HZ.out (by rw [← hqe]; exact HNL.out q (Nat.le_refl _))
                  clear hqe
                  go_wp2_with go_in
                  go_roundw
                  case rel => exact ⟨a + 1, S', by omega, by go_num, hSl', HF, HO, HX5⟩
                  case measure => simp [intOf]; omega
            · have HF : Hid (ans = (C, some S, 0)) := by
                have h1 := HA.out
                rw [List.take_of_length_le (by omega)] at h1
                show _ = _
                rw [HJ2.out, h1]
              go_wp2
              go_ret3
              rw [HF.out]
              refine ⟨_, rfl, fun e => (by cases e), fun S' e => ?_, ?_⟩
              · cases e
                exact ⟨own_base HO.out (Nat.le_trans HBW.out.size HBB.out.size), hSl, by simp⟩
              · exact (HBW.out.trans (HBB.out.mono HBW.out.size)).trans (HX5.out.mono (Nat.le_trans HBW.out.size HBB.out.size))
    · have HA := hid (judge_counted (D := D) HPL.out hct)
      have hct1 : (countedS r s.data.toList != 0) = true := by simpa using hct
      generalize judgeS r D s.data.toList = ans at *
      generalize countedS r s.data.toList = c at *
      clear hct
      unfold ground at *
      go_enter Tryz.func58, Tryz.ntmps58
      go_wp2_with (first
        | (go_at_call 106; rw [← HWQ.out]; refine HPN.out.mono ?_; rintro e1 w1 ⟨rfl, hb1⟩; have HB1 := hid hb1; clear hb1; obtain ⟨p0, p1, p2, p3, p4, p5, p6, p7⟩ := HK.out; have p0 : w1.cell? _ = _ := (HB1.out.cell (by exact hbox)).trans p0; have p1 : w1.cell? _ = _ := (HB1.out.cell (by exact hbox)).trans p1; have p2 : w1.cell? _ = _ := (HB1.out.cell (by exact hbox)).trans p2; have p3 : w1.cell? _ = _ := (HB1.out.cell (by exact hbox)).trans p3; have p4 : w1.cell? _ = _ := (HB1.out.cell (by exact hbox)).trans p4; have p5 : w1.cell? _ = _ := (HB1.out.cell (by exact hbox)).trans p5; have p6 : w1.cell? _ = _ := (HB1.out.cell (by exact hbox)).trans p6; have p7 : w1.cell? _ = _ := (HB1.out.cell (by exact hbox)).trans p7; have hbw1 : w.heap.size < w1.heap.size := Nat.lt_of_lt_of_le hbox HB1.out.size)
        | (go_at_call 107; refine (HCT1.out _ HB1.out).mono ?_; rintro e2 w2 ⟨rfl, hb2⟩; have HB2 : Hid (Below W.heap.size W w2) := HB1.out.trans (hb2.mono HB1.out.size); clear hb2)
        | go_in)
      go_ret3
      rw [HA.out]
      exact ⟨_, rfl, fun _ => rfl, fun S e => (by cases e), HBW.out.trans (HB2.out.mono HBW.out.size)⟩
end Go.Proofs.YtebinaopncclgabGreatDoor
