/- Walks of the statement: what shows itself. -/
import Derived.Test.YtebinaopncclgaaPGrid
import Derived.Test.YtebinaopncclgaaLBool
namespace Go.Proofs.Ytebinaopncclgaa
open Go.RowKit Go.IntWalk

set_option maxRecDepth 100000 in
set_option maxHeartbeats 4000000 in
theorem tight_any (n : Nat) (C : Nat → Nat → Int) (vc : Value) (g1 g2 g3 : Nat) (col u v : Nat → Int) (cost : Int) (w : World) (hn : n ≤ 10) (hsq : SqR w vc n C) (hc : CellOk n C) (ht : Tight n C col u v cost) (h1 : RowAt w g1 n col) (h2 : RowAt w g2 n u) (h3 : RowAt w g3 n v) :
    Calls Try.prog 19 #[vc, .agg #[.bool true, .int .i64 cost, .slice (some ⟨g1, 0, none⟩) n n, .slice (some ⟨g2, 0, none⟩) n n, .slice (some ⟨g3, 0, none⟩) n n, .slice none 0 0]] w fun e w' => e = .returned (.bool true) ∧ Below w.heap.size w w' := by
  obtain ⟨i0, hi, hz0, hz1, hz2⟩ := info_parts Try.infoBool
  obtain ⟨W, hW⟩ : ∃ W, W = w.alloc (.cells #[.bool true, .int .i64 cost, .slice (some ⟨g1, 0, none⟩) n n, .slice (some ⟨g2, 0, none⟩) n n, .slice (some ⟨g3, 0, none⟩) n n, .slice none 0 0] 49) := ⟨_, rfl⟩
  have hbW : Below w.heap.size w W := by rw [hW]; exact below1 w _
  obtain ⟨zl, z0, z1, z2, z3, z4, z5, _⟩ := six_at (w := W) (b := w.heap.size) (by rw [hW]; exact heap_alloc_new w _)
  have HZ := hid (show W.heap[w.heap.size]? = some (.cells #[.bool true, .int .i64 cost, .slice (some ⟨g1, 0, none⟩) n n, .slice (some ⟨g2, 0, none⟩) n n, .slice (some ⟨g3, 0, none⟩) n n, .slice none 0 0] 49 (0, 0)) by rw [hW]; exact heap_alloc_new w _)
  have HS := hid (hsq.below hbW)
  have HR1 : Hid (RowAt W g1 n col) := h1.block (hbW.block _ h1.lt)
  have HR2 : Hid (RowAt W g2 n u) := h2.block (hbW.block _ h2.lt)
  have HR3 : Hid (RowAt W g3 n v) := h3.block (hbW.block _ h3.lt)
  have HBW := hid hbW
  have HTG := hid ht
  have HC := hid hc
  have HWQ := hid hW
  obtain ⟨af, cf, hvc, _, hq⟩ := HS.out
  subst hvc
  have HQ := hid hq
  clear hsq hc ht h1 h2 h3 hbW hW hq HS
  go_enter Try.func19, Try.ntmps19
  go_wp2_with (first
    | (at_make; rw [← HWQ.out]; refine wpList_make_full _ rfl _ _ 76 rfl W.heap.size 4 i0 (.bool false) 1 Try.underlying76 hi hz0 hz1 .i64 .i64 _ _ n rfl rfl ?q1 ?q2 ?q3 ?q4 ?q5 ?_)
    | go_in)
  case q1 => rfl
  case q2 => rfl
  case q3 => rw [hz2]; omega
  case q4 => unfold maxLen; omega
  case q5 => exact Nat.le_refl _
  intro w2 hown2 hgrow2
  have HB2 : Hid (Below W.heap.size W w2) := (Below.refl _ _).grown hgrow2 (Nat.le_refl _) (by simp)
  have HN2 : Hid (BRow w2 W.heap.size n (snS col 0)) := BRow.made (B := W.heap.size) (by simpa using hown2)
  obtain ⟨ct, hct⟩ : ∃ ct : Nat → Int, ct = fun k => sumL (fun i => C i (col i).toNat) (List.range k) := ⟨_, rfl⟩
  obtain ⟨st, hst⟩ : ∃ st : Nat → Int, st = fun k => sumL (fun i => u i + v i) (List.range k) := ⟨_, rfl⟩
  have HC0 : Hid (ct 0 = 0 ∧ st 0 = 0) := by show _ ∧ _; rw [hct, hst]; exact ⟨rfl, rfl⟩
  have HC1 : Hid (∀ k, ct (k + 1) = ct k + C k (col k).toNat) := fun k => by rw [hct]; simp [List.range_succ, sumL_append, sumL]
  have HS1 : Hid (∀ k, st (k + 1) = st k + (u k + v k)) := fun k => by rw [hst]; simp [List.range_succ, sumL_append, sumL]
  have HCN : Hid (ct n = cost ∧ st n = cost) := by show _ ∧ _; rw [hct, hst]; exact ⟨HTG.out.tcost.symm, HTG.out.sum.symm⟩
  clear hown2 hgrow2 hct hst
  go_wp2_with fail
  go_loopw [7, 8, 9] (fun cv sv i wr => ∃ k : Nat, k ≤ n ∧ i = .int .i64 k ∧ cv = .int .i64 (ct k) ∧ sv = .int .i64 (st k) ∧ (-(k : Int) * 1000000000 ≤ ct k ∧ ct k ≤ (k : Int) * 1000000000) ∧ (-(k : Int) * 1000000000 ≤ st k ∧ st k ≤ (k : Int) * 1000000000) ∧ Hid (BRow wr W.heap.size n (snS col k)) ∧ Hid (Below W.heap.size W wr)) (fun _ _ i _ => n - (intOf i).toNat)
  case atStart => exact ⟨0, Nat.zero_le _, rfl, by rw [HC0.out.1], by rw [HC0.out.2], by rw [HC0.out.1]; omega, by rw [HC0.out.2]; omega, HN2, HB2⟩
  case round =>
    clear HN2 HB2
    obtain ⟨k, hk, rfl, rfl, rfl, hcb, hsb, HN, HB⟩ := hrel
    have y1 : wr.cell? ⟨w.heap.size, 1, none⟩ = _ := (HB.out.cell (by exact zl)).trans z1
    have yl : w.heap.size < wr.heap.size := Nat.lt_of_lt_of_le zl HB.out.size
    by_cases hlt : k < n
    · obtain ⟨kn, hkn, hknn, hopen⟩ := HTG.out.tcol k hlt
      have y2 : wr.cell? ⟨w.heap.size, 2, none⟩ = _ := (HB.out.cell (by exact zl)).trans z2
      have y3 : wr.cell? ⟨w.heap.size, 3, none⟩ = _ := (HB.out.cell (by exact zl)).trans z3
      have y4 : wr.cell? ⟨w.heap.size, 4, none⟩ = _ := (HB.out.cell (by exact zl)).trans z4
      have r1 : wr.cell? ⟨g1, k, none⟩ = _ := (HB.out.cell (by exact HR1.out.lt)).trans (HR1.out.cell hlt)
      have r2 : wr.cell? ⟨g2, k, none⟩ = _ := (HB.out.cell (by exact HR2.out.lt)).trans (HR2.out.cell hlt)
      have r3 : wr.cell? ⟨g3, k, none⟩ = _ := (HB.out.cell (by exact HR3.out.lt)).trans (HR3.out.cell hlt)
      have l1 : g1 < wr.heap.size := Nat.lt_of_lt_of_le HR1.out.lt HB.out.size
      have l2 : g2 < wr.heap.size := Nat.lt_of_lt_of_le HR2.out.lt HB.out.size
      have l3 : g3 < wr.heap.size := Nat.lt_of_lt_of_le HR3.out.lt HB.out.size
      obtain ⟨fg, fgi, fci, haf, hfg, hfc, hfgi, hfr⟩ := HQ.out k hlt
      subst haf
      have q1 : wr.cell? ⟨fg, k, none⟩ = _ := (HB.out.cell (by exact hfg)).trans hfc
      have q2 : wr.cell? ⟨fgi, kn, none⟩ = _ := (HB.out.cell (by exact hfgi)).trans (hfr kn hknn)
      have l4 : fg < wr.heap.size := Nat.lt_of_lt_of_le hfg HB.out.size
      have l5 : fgi < wr.heap.size := Nat.lt_of_lt_of_le hfgi HB.out.size
      have s0 := HN.out.cell hknn
      have sf := HN.out.frozen kn
      have l6 := HN.out.lt
      have hfresh := snS_fresh HTG.out hlt
      have HSS : Hid (snS col (k + 1) = up1 (snS col k) kn true) := by show up1 _ _ _ = _; rw [hkn]; simp
      rw [hkn] at r1 hfresh
      simp only [Int.toNat_natCast] at hfresh
      rw [hfresh] at s0
      have HCK : Hid (ct (k + 1) = ct k + C k kn) := by show _ = _; rw [HC1.out, hkn]; simp
      have HSK := hid (HS1.out k)
      have hub := HTG.out.ubd k hlt
      have hvb := HTG.out.vbd k hlt
      have hcc := HC.out k kn hlt hknn
      have hund : ∀ j, j < n → C k j ≠ -1 → u k + v j ≤ C k j := fun j hj h => HTG.out.under k j hlt hj h
      have HUND := hid hund
      have HFR := hid hfr
      have ik : (0 : Int) ≤ (k : Int) := by omega
      have jk : (k : Int) < (n : Int) := by omega
      have ikn : (0 : Int) ≤ (kn : Int) := by omega
      have jkn : (kn : Int) < (n : Int) := by omega
      have c1 : (C k kn == (-1 : Int)) = false := by simpa using hopen
      obtain ⟨d, hd⟩ : ∃ d, d = C k kn := ⟨_, rfl⟩
      obtain ⟨uk, huk⟩ : ∃ uk, uk = u k := ⟨_, rfl⟩
      obtain ⟨vk, hvk⟩ : ∃ vk, vk = v k := ⟨_, rfl⟩
      obtain ⟨ck, hck⟩ : ∃ ck, ck = ct k := ⟨_, rfl⟩
      obtain ⟨sk, hsk⟩ : ∃ sk, sk = st k := ⟨_, rfl⟩
      rw [← hd] at q2 hcc c1 HCK
      rw [← huk] at r2 hub HSK HUND
      rw [← hvk] at r3 hvb HSK
      rw [← hck] at hcb HCK ⊢
      rw [← hsk] at hsb HSK ⊢
      have HUK := hid huk
      have HVK := hid hvk
      have wz1 : IntKind.i64.wrap (ck + d) = ck + d := i64_fits _ (by omega)
      have wz2 : IntKind.i64.wrap (sk + uk) = sk + uk := i64_fits _ (by omega)
      have wz3 : IntKind.i64.wrap (sk + uk + vk) = sk + uk + vk := i64_fits _ (by omega)
      clear hkn hopen hfresh hund hfr hd huk hvk hck hsk
      go_wp2_with go_in
      have HN3 : Hid (BRow (wr.setCell ⟨W.heap.size, kn, none⟩ (.bool true)) W.heap.size n (snS col (k + 1))) := by show BRow _ _ _ _; rw [HSS.out]; exact HN.out.put hknn true
      have HB3 : Hid (Below W.heap.size W (wr.setCell ⟨W.heap.size, kn, none⟩ (.bool true))) := HB.out.setCell (by exact Nat.le_refl _) _
      obtain ⟨w3, hw3⟩ : ∃ w3, w3 = wr.setCell ⟨W.heap.size, kn, none⟩ (.bool true) := ⟨_, rfl⟩
      rw [← hw3] at HN3 HB3 ⊢
      have x3 : w3.cell? ⟨w.heap.size, 3, none⟩ = _ := (HB3.out.cell (by exact zl)).trans z3
      have x4 : w3.cell? ⟨w.heap.size, 4, none⟩ = _ := (HB3.out.cell (by exact zl)).trans z4
      have xl : w.heap.size < w3.heap.size := Nat.lt_of_lt_of_le zl HB3.out.size
      have t2 : w3.cell? ⟨g2, k, none⟩ = some (.int .i64 uk) := by rw [HUK.out]; exact (HB3.out.cell (by exact HR2.out.lt)).trans (HR2.out.cell hlt)
      have t3 : w3.cell? ⟨g3, k, none⟩ = some (.int .i64 vk) := by rw [HVK.out]; exact (HB3.out.cell (by exact HR3.out.lt)).trans (HR3.out.cell hlt)
      have m2 : g2 < w3.heap.size := Nat.lt_of_lt_of_le HR2.out.lt HB3.out.size
      have m3 : g3 < w3.heap.size := Nat.lt_of_lt_of_le HR3.out.lt HB3.out.size
      clear hw3 y1 y2 y3 y4 yl r1 r2 r3 l1 l2 l3 l4 l5 l6 q1 q2 s0 sf c1 wz1 HN HB
      go_quiet (fail)
      have HN4 : Hid (BRow (w3.drewN nq) W.heap.size n (snS col (k + 1))) := HN3.out.block rfl
      have HB4 : Hid (Below W.heap.size W (w3.drewN nq)) := below_drewN' HB3.out _
      obtain ⟨w4, hw4⟩ : ∃ w4, w4 = w3.drewN nq := ⟨_, rfl⟩
      rw [← hw4] at HN4 HB4 ⊢
      clear hw4 x3 x4 xl t2 t3 m2 m3 HN3 HB3 wz2 wz3
      have dA : decide ((kn : Int) < 0) = false := by simp
      have dB : decide (n ≤ kn) = false := by simp; omega
      have dC : decide (uk < -100000000) = false := by simp; omega
      have dD : decide (100000000 < uk) = false := by simp; omega
      have dE : decide (vk < -100000000) = false := by simp; omega
      have dF : decide (100000000 < vk) = false := by simp; omega
      go_wp2_with fail
      simp only [dA, dB, dC, dD, dE, dF, Bool.or_false]
      clear dA dB dC dD dE dF
      go_loopw [11] (fun j wr => ∃ q : Nat, q ≤ n ∧ j = .int .i64 q ∧ Hid (BRow wr W.heap.size n (snS col (k + 1))) ∧ Hid (Below W.heap.size W wr)) (fun j _ => n - (intOf j).toNat)
      case atStart => exact ⟨0, Nat.zero_le _, rfl, HN4, HB4⟩
      case round =>
        clear HN4 HB4
        obtain ⟨q, hq, rfl, HN, HB⟩ := hrel
        by_cases hlq : q < n
        · have x3 : wr.cell? ⟨w.heap.size, 3, none⟩ = _ := (HB.out.cell (by exact zl)).trans z3
          have x4 : wr.cell? ⟨w.heap.size, 4, none⟩ = _ := (HB.out.cell (by exact zl)).trans z4
          have xl : w.heap.size < wr.heap.size := Nat.lt_of_lt_of_le zl HB.out.size
          have t2 : wr.cell? ⟨g2, k, none⟩ = some (.int .i64 uk) := by rw [HUK.out]; exact (HB.out.cell (by exact HR2.out.lt)).trans (HR2.out.cell hlt)
          have t3 : wr.cell? ⟨g3, q, none⟩ = _ := (HB.out.cell (by exact HR3.out.lt)).trans (HR3.out.cell hlq)
          have m2 : g2 < wr.heap.size := Nat.lt_of_lt_of_le HR2.out.lt HB.out.size
          have m3 : g3 < wr.heap.size := Nat.lt_of_lt_of_le HR3.out.lt HB.out.size
          have q1 : wr.cell? ⟨fg, k, none⟩ = _ := (HB.out.cell (by exact hfg)).trans hfc
          have q2 : wr.cell? ⟨fgi, q, none⟩ = _ := (HB.out.cell (by exact hfgi)).trans (HFR.out q hlq)
          have l4 : fg < wr.heap.size := Nat.lt_of_lt_of_le hfg HB.out.size
          have l5 : fgi < wr.heap.size := Nat.lt_of_lt_of_le hfgi HB.out.size
          have iq : (0 : Int) ≤ (q : Int) := by omega
          have jq : (q : Int) < (n : Int) := by omega
          have hvq := HTG.out.vbd q hlq
          have HUQ := hid (HUND.out q hlq)
          have hcq := HC.out k q hlt hlq
          obtain ⟨d2, hd2⟩ : ∃ d2, d2 = C k q := ⟨_, rfl⟩
          obtain ⟨vq, hvq2⟩ : ∃ vq, vq = v q := ⟨_, rfl⟩
          rw [← hd2] at q2 HUQ hcq
          rw [← hvq2] at t3 hvq HUQ
          have wz1 : IntKind.i64.wrap (uk + vq) = uk + vq := i64_fits _ (by omega)
          clear hd2 hvq2
          by_cases hcl : d2 = -1
          · have c1 : (d2 != (-1 : Int)) = false := by simp [hcl]
            clear hcl HUQ
            go_wp2_with go_in
            go_quiet (fail)
            go_wp2
            go_roundw
            case rel => exact ⟨q + 1, by omega, by go_num, by first | exact HN | exact HN.out.block rfl, by first | exact HB | exact HB.out.drew | exact below_drewN' HB.out _⟩
            case measure => simp [intOf]; omega
          · have c1 : (d2 != (-1 : Int)) = true := by simpa using hcl
            have hle := HUQ.out hcl
            have hnl : ¬ d2 < uk + vq := by omega
            clear hcl HUQ
            go_wp2_with go_in
            go_quiet (fail)
            go_wp2
            go_roundw
            case rel => exact ⟨q + 1, by omega, by go_num, by first | exact HN | exact HN.out.block rfl, by first | exact HB | exact HB.out.drew | exact below_drewN' HB.out _⟩
            case measure => simp [intOf]; omega
        · go_wp2_with go_in
          go_roundw
          case rel => exact ⟨k + 1, by omega, by go_num, by rw [HCK.out], by rw [HSK.out]; simp; omega, by rw [HCK.out]; omega, by rw [HSK.out]; omega, HN, HB⟩
          case measure => simp [intOf]; omega
    · have hke : k = n := by omega
      have HCE : Hid (ct k = cost ∧ st k = cost) := by show _ ∧ _; rw [hke]; exact HCN.out
      have hc1 := HCE.out.1
      have hc2 := HCE.out.2
      rw [hc1, hc2]
      have e1 : (cost == cost) = true := by simp
      clear hcb hsb hke hc1 hc2
      go_wp2_with go_in
      go_ret
      exact ⟨rfl, HBW.out.trans (HB.out.mono HBW.out.size)⟩
end Go.Proofs.Ytebinaopncclgaa
