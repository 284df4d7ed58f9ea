/- The statement on Assign that shows itself, proved: the argument is opened, the walk is used, the argument reads as it did. -/
import Derived.Test.YtebinaopncclgaaPTight
import Derived.Test.YtebinaopncclgaaADep
import Derived.Test.YtebinaopncclgaaInstO
import Derived.ProofKit
import Derived.OpenShut
import Derived.ChangeOld
import Derived.Below
import Derived.Deep.Slices
namespace Go.Proofs.Ytebinaopncclgaa
open Go.RowKit Go.IntWalk

theorem dnN_mono {n : Nat} {S T : Nat → Bool} (h : ∀ j, j < n → S j = true → T j = true) : dnN n S ≤ dnN n T := by
  unfold dnN
  refine nodup_sub _ _ (List.nodup_iff_pairwise_ne.2 (List.Pairwise.filter _ (List.nodup_iff_pairwise_ne.1 List.nodup_range))) (fun x hx => ?_)
  have h1 := List.mem_filter.1 hx
  exact List.mem_filter.2 ⟨h1.1, h x (by simpa using h1.1) h1.2⟩
theorem dnN_zero (n : Nat) : dnN n (fun _ => false) = 0 := by unfold dnN; simp

set_option maxRecDepth 100000 in
set_option maxHeartbeats 4000000 in
theorem pshortL_any (n m g cx : Nat) (C : Nat → Nat → Int) (vc : Value) (Lf : Nat → Nat) (T : Nat → Bool) (w : World) (hn : n ≤ 10) (hmn : m ≤ n) (hsq : SqR w vc n C) (hgl : g < w.heap.size) (hcell : ∀ i, i < m → w.cell? ⟨g, i, none⟩ = some (.int .i64 (Lf i : Nat))) (hmem : ∀ i, i < m → Lf i < n) (hopen : ∀ i j, i < m → j < n → C (Lf i) j ≠ -1 → T j = true) (hris : ∀ i, i + 1 < m → Lf i < Lf (i + 1)) (hfew : dnN n T < m) :
    Calls Try.prog 20 #[vc, .slice (some ⟨g, 0, none⟩) m cx] w fun e w' => e = .returned (.bool true) ∧ Below w.heap.size w w' := by
  obtain ⟨i0, hi, hz0, hz1, hz2⟩ := info_parts Try.infoBool
  obtain ⟨af, cf, hvc, _, hq⟩ := hsq
  subst hvc
  have HQ := hid hq
  have HC := hid hcell
  have HM := hid hmem
  have HR := hid hris
  have HOP := hid hopen
  have HFW := hid hfew
  clear hq hcell hmem hris hopen hfew
  go_enter Try.func20, Try.ntmps20
  go_wp2_with (first
    | (at_make; refine wpList_make_full _ rfl _ _ 76 rfl w.heap.size 4 i0 (.bool false) 1 Try.underlying76 hi hz0 hz1 .i64 .i64 _ _ n rfl rfl ?q1 ?q2 ?q3 ?q4 ?q5 ?_)
    | fail)
  case q1 => rfl
  case q2 => rfl
  case q3 => rw [hz2]; omega
  case q4 => unfold maxLen; omega
  case q5 => exact Nat.le_refl _
  intro w1 hown1 hgrow1
  have HB1 : Hid (Below w.heap.size w w1) := (Below.refl _ _).grown hgrow1 (Nat.le_refl _) (by simp)
  have HN1 : Hid (BRow w1 w.heap.size n (fun _ => false)) := BRow.made (B := w.heap.size) (by simpa using hown1)
  clear hown1 hgrow1
  go_wp2_with fail
  go_loopw [6, 7] (fun cv i wr => ∃ (k cn : Nat) (sn : Nat → Bool), k ≤ m ∧ i = .int .i64 k ∧ cv = .int .i64 cn ∧ cn ≤ n ∧ Hid (dnN n sn = cn) ∧ Hid (∀ j, j < n → sn j = true → T j = true) ∧ Hid (BRow wr w.heap.size n sn) ∧ Hid (Below w.heap.size w wr)) (fun _ i _ => m - (intOf i).toNat)
  case atStart => exact ⟨0, 0, fun _ => false, Nat.zero_le _, rfl, rfl, Nat.zero_le _, dnN_zero n, fun j _ h => (by cases h), HN1, HB1⟩
  case round =>
    clear HN1 HB1
    obtain ⟨k, cn, sn, hk, rfl, rfl, hcn, HCN, HSN, HN, HB⟩ := hrel
    by_cases hlt : k < m
    · obtain ⟨r, hr⟩ : ∃ r, r = Lf k := ⟨_, rfl⟩
      have hrn := HM.out k hlt
      have x0 : wr.cell? ⟨g, k, none⟩ = _ := (HB.out.cell (by exact hgl)).trans (HC.out k hlt)
      have HOR : Hid (∀ j, j < n → C (Lf k) j ≠ -1 → T j = true) := fun j hj h => HOP.out k j hlt hj h
      rw [← hr] at x0 hrn HOR
      have hg1 : g < wr.heap.size := Nat.lt_of_lt_of_le hgl HB.out.size
      have ik : (0 : Int) ≤ (k : Int) := by omega
      have jk : (k : Int) < (m : Int) := by omega
      have ir : (0 : Int) ≤ (r : Int) := by omega
      have jr : (r : Int) < (n : Int) := by omega
      obtain ⟨fg, fgi, fci, haf, hfg, hfc, hfgi, hfr⟩ := HQ.out r hrn
      subst haf
      have HFR := hid hfr
      have hpre : k = 0 ∨ ∃ k' r' : Nat, k = k' + 1 ∧ r' < r ∧ wr.cell? ⟨g, k', none⟩ = some (.int .i64 r') := by
        by_cases h : k = 0
        · exact .inl h
        · right
          obtain ⟨k', rfl⟩ : ∃ k', k = k' + 1 := ⟨k - 1, by omega⟩
          exact ⟨k', Lf k', rfl, by rw [hr]; exact HR.out k' hlt, (HB.out.cell (by exact hgl)).trans (HC.out k' (by omega))⟩
      clear hr hfr
      rcases hpre with hk0 | ⟨k', r', hk', hrr, x1⟩
      · have hkz : ¬ (0 : Int) < (k : Int) := by omega
        clear hk0
        go_wp2_with go_in
        have dA : decide ((r : Int) < 0) = false := by simp
        simp only [dA]
        clear dA
        go_loopw [6, 9] (fun cv j wr => ∃ (q cn : Nat) (sn : Nat → Bool), q ≤ n ∧ j = .int .i64 q ∧ cv = .int .i64 cn ∧ cn ≤ n ∧ Hid (dnN n sn = cn) ∧ Hid (∀ j, j < n → sn j = true → T j = true) ∧ Hid (BRow wr w.heap.size n sn) ∧ Hid (Below w.heap.size w wr)) (fun _ j _ => n - (intOf j).toNat)
        case atStart => exact ⟨0, cn, sn, Nat.zero_le _, rfl, rfl, hcn, HCN, HSN, by first | exact HN | exact HN.out.block rfl, by first | exact HB | exact HB.out.drew | exact below_drewN' HB.out _⟩
        case round =>
          clear HCN HSN HN HB x0 hg1
          obtain ⟨q, cn, sn, hq, rfl, rfl, hcn, HCN, HSN, HN, HB⟩ := hrel
          by_cases hlq : q < n
          · have q1 : wr.cell? ⟨fg, r, none⟩ = _ := (HB.out.cell (by exact hfg)).trans hfc
            have q2 : wr.cell? ⟨fgi, q, none⟩ = _ := (HB.out.cell (by exact hfgi)).trans (HFR.out q hlq)
            have l4 : fg < wr.heap.size := Nat.lt_of_lt_of_le hfg HB.out.size
            have l5 : fgi < wr.heap.size := Nat.lt_of_lt_of_le hfgi HB.out.size
            have s0 := HN.out.cell hlq
            have sf := HN.out.frozen q
            have l6 := HN.out.lt
            have iq : (0 : Int) ≤ (q : Int) := by omega
            have jq : (q : Int) < (n : Int) := by omega
            by_cases hcl : C r q = -1
            · have c1 : (C r q != (-1 : Int)) = false := by simp [hcl]
              clear hcl
              go_wp2_with go_in
              first
                | (go_quiet (fail)
                   go_wp2
                   go_roundw
                   case rel => exact ⟨q + 1, cn, sn, by omega, by go_num, rfl, hcn, HCN, HSN, by first | exact HN | exact HN.out.block rfl, by first | exact HB | exact HB.out.drew | exact below_drewN' HB.out _⟩
                   case measure => simp [intOf]; omega)
                | (go_roundw
                   case rel => exact ⟨q + 1, cn, sn, by omega, by go_num, rfl, hcn, HCN, HSN, by first | exact HN | exact HN.out.block rfl, by first | exact HB | exact HB.out.drew | exact below_drewN' HB.out _⟩
                   case measure => simp [intOf]; omega)
            · have c1 : (C r q != (-1 : Int)) = true := by simpa using hcl
              have HTQ := hid (HOR.out q hlq hcl)
              cases hsq2 : sn q
              · rw [hsq2] at s0
                have HUPN := hid (dnN_up (n := n) hlq hsq2)
                have hnl := dnN_le n (up1 sn q true)
                rw [HUPN.out, HCN.out] at hnl
                have HS2 : Hid (∀ j, j < n → up1 sn q true j = true → T j = true) := fun j hj h => by
                  unfold up1 at h
                  by_cases e : j = q
                  · rw [e]; exact HTQ.out
                  · rw [if_neg e] at h; exact HSN.out j hj h
                have HC2 : Hid (dnN n (up1 sn q true) = cn + 1) := by show _ = _; rw [HUPN.out, HCN.out]
                clear hcl hsq2
                go_wp2_with go_in
                first
                  | (go_quiet (fail)
                     go_wp2_with go_in
                     go_roundw
                     case rel => exact ⟨q + 1, cn + 1, up1 sn q true, by omega, by go_num, by go_num, hnl, HC2, HS2, by first | exact HN.out.put hlq true | exact (HN.out.block (w' := wr.drewN _) rfl).put hlq true, by first | exact HB.out.setCell (by exact Nat.le_refl _) _ | exact (below_drewN' HB.out _).setCell (by exact Nat.le_refl _) _⟩
                     case measure => simp [intOf]; omega)
                  | (go_roundw
                     case rel => exact ⟨q + 1, cn + 1, up1 sn q true, by omega, by go_num, by go_num, hnl, HC2, HS2, by first | exact HN.out.put hlq true | exact (HN.out.block (w' := wr.drew) rfl).put hlq true, by first | exact HB.out.setCell (by exact Nat.le_refl _) _ | exact HB.out.drew.setCell (by exact Nat.le_refl _) _⟩
                     case measure => simp [intOf]; omega)
              · rw [hsq2] at s0
                clear hcl hsq2
                go_wp2_with go_in
                first
                  | (go_quiet (fail)
                     go_wp2
                     go_roundw
                     case rel => exact ⟨q + 1, cn, sn, by omega, by go_num, rfl, hcn, HCN, HSN, by first | exact HN | exact HN.out.block rfl, by first | exact HB | exact HB.out.drew | exact below_drewN' HB.out _⟩
                     case measure => simp [intOf]; omega)
                  | (go_roundw
                     case rel => exact ⟨q + 1, cn, sn, by omega, by go_num, rfl, hcn, HCN, HSN, by first | exact HN | exact HN.out.block rfl, by first | exact HB | exact HB.out.drew | exact below_drewN' HB.out _⟩
                     case measure => simp [intOf]; omega)
          · go_wp2_with go_in
            go_roundw
            case rel => exact ⟨k + 1, cn, sn, by omega, by go_num, rfl, hcn, HCN, HSN, HN, HB⟩
            case measure => simp [intOf]; omega
      · subst hk'
        have hwr : IntKind.i64.wrap ((k' : Int) + 1 - 1) = k' := by rw [show (k' : Int) + 1 - 1 = k' by omega]; exact i64_fits _ (by omega)
        have hwr2 : IntKind.i64.wrap (k' : Int) = k' := i64_fits _ (by omega)
        have ik' : (0 : Int) ≤ (k' : Int) := by omega
        have jk' : (k' : Int) < (m : Int) := by omega
        have hnr : ¬ (r : Int) ≤ (r' : Int) := by omega
        have hkp : (0 : Int) < ((k' + 1 : Nat) : Int) := by omega
        go_wp2_with go_in
        have dA : decide ((r : Int) < 0) = false := by simp
        simp only [dA]
        clear dA
        go_loopw [6, 9] (fun cv j wr => ∃ (q cn : Nat) (sn : Nat → Bool), q ≤ n ∧ j = .int .i64 q ∧ cv = .int .i64 cn ∧ cn ≤ n ∧ Hid (dnN n sn = cn) ∧ Hid (∀ j, j < n → sn j = true → T j = true) ∧ Hid (BRow wr w.heap.size n sn) ∧ Hid (Below w.heap.size w wr)) (fun _ j _ => n - (intOf j).toNat)
        case atStart => exact ⟨0, cn, sn, Nat.zero_le _, rfl, rfl, hcn, HCN, HSN, by first | exact HN | exact HN.out.block rfl, by first | exact HB | exact HB.out.drew | exact below_drewN' HB.out _⟩
        case round =>
          clear HCN HSN HN HB x0 hg1 x1
          obtain ⟨q, cn, sn, hq, rfl, rfl, hcn, HCN, HSN, HN, HB⟩ := hrel
          by_cases hlq : q < n
          · have q1 : wr.cell? ⟨fg, r, none⟩ = _ := (HB.out.cell (by exact hfg)).trans hfc
            have q2 : wr.cell? ⟨fgi, q, none⟩ = _ := (HB.out.cell (by exact hfgi)).trans (HFR.out q hlq)
            have l4 : fg < wr.heap.size := Nat.lt_of_lt_of_le hfg HB.out.size
            have l5 : fgi < wr.heap.size := Nat.lt_of_lt_of_le hfgi HB.out.size
            have s0 := HN.out.cell hlq
            have sf := HN.out.frozen q
            have l6 := HN.out.lt
            have iq : (0 : Int) ≤ (q : Int) := by omega
            have jq : (q : Int) < (n : Int) := by omega
            by_cases hcl : C r q = -1
            · have c1 : (C r q != (-1 : Int)) = false := by simp [hcl]
              clear hcl
              go_wp2_with go_in
              first
                | (go_quiet (fail)
                   go_wp2
                   go_roundw
                   case rel => exact ⟨q + 1, cn, sn, by omega, by go_num, rfl, hcn, HCN, HSN, by first | exact HN | exact HN.out.block rfl, by first | exact HB | exact HB.out.drew | exact below_drewN' HB.out _⟩
                   case measure => simp [intOf]; omega)
                | (go_roundw
                   case rel => exact ⟨q + 1, cn, sn, by omega, by go_num, rfl, hcn, HCN, HSN, by first | exact HN | exact HN.out.block rfl, by first | exact HB | exact HB.out.drew | exact below_drewN' HB.out _⟩
                   case measure => simp [intOf]; omega)
            · have c1 : (C r q != (-1 : Int)) = true := by simpa using hcl
              have HTQ := hid (HOR.out q hlq hcl)
              cases hsq2 : sn q
              · rw [hsq2] at s0
                have HUPN := hid (dnN_up (n := n) hlq hsq2)
                have hnl := dnN_le n (up1 sn q true)
                rw [HUPN.out, HCN.out] at hnl
                have HS2 : Hid (∀ j, j < n → up1 sn q true j = true → T j = true) := fun j hj h => by
                  unfold up1 at h
                  by_cases e : j = q
                  · rw [e]; exact HTQ.out
                  · rw [if_neg e] at h; exact HSN.out j hj h
                have HC2 : Hid (dnN n (up1 sn q true) = cn + 1) := by show _ = _; rw [HUPN.out, HCN.out]
                clear hcl hsq2
                go_wp2_with go_in
                first
                  | (go_quiet (fail)
                     go_wp2_with go_in
                     go_roundw
                     case rel => exact ⟨q + 1, cn + 1, up1 sn q true, by omega, by go_num, by go_num, hnl, HC2, HS2, by first | exact HN.out.put hlq true | exact (HN.out.block (w' := wr.drewN _) rfl).put hlq true, by first | exact HB.out.setCell (by exact Nat.le_refl _) _ | exact (below_drewN' HB.out _).setCell (by exact Nat.le_refl _) _⟩
                     case measure => simp [intOf]; omega)
                  | (go_roundw
                     case rel => exact ⟨q + 1, cn + 1, up1 sn q true, by omega, by go_num, by go_num, hnl, HC2, HS2, by first | exact HN.out.put hlq true | exact (HN.out.block (w' := wr.drew) rfl).put hlq true, by first | exact HB.out.setCell (by exact Nat.le_refl _) _ | exact HB.out.drew.setCell (by exact Nat.le_refl _) _⟩
                     case measure => simp [intOf]; omega)
              · rw [hsq2] at s0
                clear hcl hsq2
                go_wp2_with go_in
                first
                  | (go_quiet (fail)
                     go_wp2
                     go_roundw
                     case rel => exact ⟨q + 1, cn, sn, by omega, by go_num, rfl, hcn, HCN, HSN, by first | exact HN | exact HN.out.block rfl, by first | exact HB | exact HB.out.drew | exact below_drewN' HB.out _⟩
                     case measure => simp [intOf]; omega)
                  | (go_roundw
                     case rel => exact ⟨q + 1, cn, sn, by omega, by go_num, rfl, hcn, HCN, HSN, by first | exact HN | exact HN.out.block rfl, by first | exact HB | exact HB.out.drew | exact below_drewN' HB.out _⟩
                     case measure => simp [intOf]; omega)
          · go_wp2_with go_in
            go_roundw
            case rel => exact ⟨(k' + 1) + 1, cn, sn, by omega, by go_num, rfl, hcn, HCN, HSN, HN, HB⟩
            case measure => simp [intOf]; omega
    · have HLAST : Hid (cn < m) := by
        have h1 := dnN_mono HSN.out
        have h2 := HFW.out
        have h3 := HCN.out
        show _ < _
        omega
      have hlast := HLAST.out
      go_wp2_with go_in
      go_ret
      exact ⟨ret_bool (by simp), HB.out⟩

theorem pshort_any (n : Nat) (C : Nat → Nat → Int) (vc x : Value) (S T : Nat → Bool) (B : Nat) (w : World) (hn : n ≤ 10) (hsq : SqR w vc n C) (hx : w.ownsRow B 3 1 x ((List.range n).filter S).length (ints (((List.range n).filter S).map fun (i : Nat) => (i : Int)))) (hs : Short n C S T) :
    Calls Try.prog 20 #[vc, x] w fun e w' => e = .returned (.bool true) ∧ Below w.heap.size w w' := by
  have hmn : ((List.range n).filter S).length ≤ n := by have := List.length_filter_le S (List.range n); simp at this; exact this
  have hm0 : 0 < ((List.range n).filter S).length := by have := hs.few; omega
  obtain ⟨g, cx, cur, hxv, _, hgh, _⟩ := own_shape hx hm0
  have hgl : g < w.heap.size := (Array.getElem?_eq_some_iff.1 hgh).1
  have hget : ∀ i (h : i < ((List.range n).filter S).length), ((List.range n).filter S).getD i 0 = ((List.range n).filter S)[i] := fun i h => by rw [List.getD_eq_getElem?_getD, List.getElem?_eq_getElem h]; rfl
  rw [hxv]
  refine pshortL_any n _ g cx C vc (fun i => ((List.range n).filter S).getD i 0) T w hn hmn hsq hgl (fun i h => ?_) (fun i h => ?_) (fun i j h hj hc => ?_) (fun i h => ?_) hs.few
  · rw [hxv] at hx
    rw [hget i h, hx.cellAt i (by omega)]; simp [ints, h]
  · rw [hget i h]
    have h1 := List.mem_filter.1 (List.getElem_mem h)
    simpa using h1.1
  · rw [hget i h] at hc
    have h1 := List.mem_filter.1 (List.getElem_mem h)
    exact hs.open_ _ j (by simpa using h1.1) hj h1.2 hc
  · rw [hget i (by omega), hget (i + 1) h]
    have hp : ((List.range n).filter S).Pairwise (· < ·) := List.Pairwise.filter _ List.pairwise_lt_range
    exact List.pairwise_iff_getElem.1 hp i (i + 1) (by omega) h (by omega)
end Go.Proofs.Ytebinaopncclgaa
namespace Go.Proofs.Ytebinaopncclgaa
open Go.RowKit Go.IntWalk

set_option maxRecDepth 100000 in
set_option maxHeartbeats 4000000 in
theorem proved_walk (ao : Option Addr) (len c : Nat) (ra : Nat → Option Addr) (rn rc : Nat → Nat) (Q : Nat → Nat → Int) (w : World) (hlen : len ≤ 9223372036854775807) (hl : LRows w ao len ra rn rc Q) :
    Calls Try.prog 5 #[.slice ao len c] w fun e w' => e = .returned (.bool true) ∧ Below w.heap.size w w' := by
  have HCC := hid (pcells_any ao len c ra rn rc Q w hlen hl)
  have hok := celB_ok rn Q (min len 10)
  obtain ⟨n, hnn⟩ : ∃ n, n = min len 10 := ⟨_, rfl⟩
  rw [← hnn] at HCC hok
  have hn : n ≤ 10 := by omega
  generalize celB rn Q = C at *
  have HOK := hid hok
  clear hl hnn hok
  go_enter Try.func5, Try.ntmps5
  go_wp2_with fail
  refine HCC.out.mono ?_
  rintro e1 w1 ⟨x, us, rfl, hus, hg1, hb1⟩
  have hsq := hg1.sq hus (by omega)
  have HB1 := hid hb1
  have HSQ := hid hsq
  obtain ⟨af, cf, hxv, _, _⟩ := id hsq
  subst hxv
  clear HCC hus hg1 hb1 hsq
  go_wp2_with fail
  refine (passign_any n C _ w1 hn HSQ.out HOK.out).mono ?_
  rintro e2 w2 ⟨hb2, hcase⟩
  have HB2 : Hid (Below w.heap.size w w2) := HB1.out.trans (hb2.mono HB1.out.size)
  have HSQ2 := hid (HSQ.out.below hb2)
  clear hb2 HSQ HB1
  rcases hcase with ⟨g1, g2, g3, col, u, v, cost, rfl, l1, l2, l3, n12, n13, n23, r1, r2, r3, htt⟩ | ⟨y, S, T, rfl, hy, hsh⟩
  · have HR1 := hid r1
    have HR2 := hid r2
    have HR3 := hid r3
    have HTT := hid htt
    clear r1 r2 r3 htt l1 l2 l3 n12 n13 n23
    go_wp2_with fail
    have hbx : Below w2.heap.size w2 (w2.alloc (.cells #[.bool true, .int .i64 cost, .slice (some ⟨g1, 0, none⟩) n n, .slice (some ⟨g2, 0, none⟩) n n, .slice (some ⟨g3, 0, none⟩) n n, .slice none 0 0] 49)) := below1 w2 _
    refine (tight_any n C _ g1 g2 g3 col u v cost _ hn (HSQ2.out.below hbx) HOK.out HTT.out (HR1.out.block (hbx.block _ HR1.out.lt)) (HR2.out.block (hbx.block _ HR2.out.lt)) (HR3.out.block (hbx.block _ HR3.out.lt))).mono ?_
    rintro e3 w3 ⟨rfl, hb3⟩
    obtain ⟨zl, z0, z1, z2, z3, z4, z5, zf⟩ := six_at (w := w3) (b := w2.heap.size) ((hb3.block _ (by simp)).trans (heap_alloc_new w2 _))
    have HB3 : Hid (Below w.heap.size w w3) := HB2.out.trans ((hbx.trans (hb3.mono (by simp))).mono HB2.out.size)
    clear hb3 hbx HR1 HR2 HR3
    go_wp2_with go_in
    go_ret
    exact ⟨rfl, HB3.out⟩
  · obtain ⟨ay, cy, hyv, _, _⟩ := own_val hy
    have HY := hid hy
    have HSH := hid hsh
    subst hyv
    clear hy hsh
    go_wp2_with fail
    have hbx : Below w2.heap.size w2 (w2.alloc (.cells #[.bool false, .int .i64 0, .slice none 0 0, .slice none 0 0, .slice none 0 0, .slice ay ((List.range n).filter S).length cy] 49)) := below1 w2 _
    refine (pshort_any n C _ _ S T _ _ hn (HSQ2.out.below hbx) (own_below HY.out hbx) HSH.out).mono ?_
    rintro e3 w3 ⟨rfl, hb3⟩
    obtain ⟨zl, z0, z1, z2, z3, z4, z5, zf⟩ := six_at (w := w3) (b := w2.heap.size) ((hb3.block _ (by simp)).trans (heap_alloc_new w2 _))
    have HB3 : Hid (Below w.heap.size w w3) := HB2.out.trans ((hbx.trans (hb3.mono (by simp))).mono HB2.out.size)
    clear hb3 hbx HY
    go_wp2_with go_in
    go_ret
    exact ⟨rfl, HB3.out⟩
end Go.Proofs.Ytebinaopncclgaa
namespace Go.Proofs.Ytebinaopncclgaa
open Go.ChangeShapes Go.WideShapes Go.ChangeAt Go.RowKit Go.Deep

/- a list of numbers that came in -/
theorem row_of {H : Type} {enc : TypeId × Value → H} {P : Program} {w : World} {held : Bool} {t e : TypeId} {fuel : Nat} {c : Value} {x : DataW H × List MemPlace}
    (ht : P.underlying t = some (.slice e)) (he : P.underlying e = some (.int .i64)) (hce : P.cellsOf e = 1) (h : DataW.trod enc P w 0 (fun _ => true) held fuel t [c] = some x) :
    ∃ (ra : Option Addr) (rn rc : Nat) (Q : Nat → Int), c = .slice ra rn rc ∧ rn ≤ 9223372036854775807 ∧ (0 < rn → ∃ b o, ra = some ⟨b, o, none⟩ ∧ b < w.heap.size ∧ ∀ j, j < rn → w.cell? ⟨b, o + j, none⟩ = some (.int .i64 (Q j)) ∧ -9223372036854775808 ≤ Q j ∧ Q j ≤ 9223372036854775807) := by
  rcases open_slice ht h with ⟨hcs, _⟩ | ⟨a, len, cap, m, n, D, Pl, hcs, _, hl, hm, hmm, _, hx⟩
  · cases hcs
    exact ⟨none, 0, 0, fun _ => 0, rfl, by omega, fun h => absurd h (by omega)⟩
  · cases hcs
    simp only [if_true] at hmm
    subst hmm
    have each : ∀ i, i < len → ∃ z : Int, w.cell? (a.add (i * 1 + 0)) = some (.int .i64 z) ∧ (Lit.int .i64 z).wf = true := by
      intro i hi
      obtain ⟨cs', h1, h2⟩ := hx i (by omega)
      rw [hce] at h1
      obtain ⟨_, hlen, hcell⟩ := World.cells?_some h1
      obtain ⟨z, hz, _, hw⟩ := DataW.trod_int he h2
      refine ⟨z, ?_, hw⟩
      have e1 := hcell 0 (by omega)
      rw [add_add] at e1
      rw [e1, hz]; rfl
    obtain ⟨Q, hQ⟩ := choose_lt (α := Int) each
    refine ⟨some a, len, _, Q, rfl, by unfold maxLen at hm; omega, fun hn => ?_⟩
    obtain ⟨b, off, spot⟩ := a
    have hc0 := (hQ 0 hn).1
    have hspot : spot = none := by simpa [Addr.add] using World.cell?_spot hc0
    subst hspot
    refine ⟨b, off, rfl, ?_, fun j hj => ?_⟩
    · rw [Addr.add_lit] at hc0; exact World.block_lt_of_cell? w _ hc0
    · have h1 := hQ j hj
      refine ⟨?_, wf_range h1.2⟩
      have h2 := h1.1
      rw [Addr.add_lit] at h2
      simpa using h2
/- lists of numbers that came in -/
theorem rows_of {H : Type} {enc : TypeId × Value → H} {P : Program} {w : World} {held : Bool} {t e f : TypeId} {fuel : Nat} {c : Value} {x : DataW H × List MemPlace}
    (ht : P.underlying t = some (.slice e)) (he : P.underlying e = some (.slice f)) (hf : P.underlying f = some (.int .i64)) (hce : P.cellsOf e = 1) (hcf : P.cellsOf f = 1) (h : DataW.trod enc P w 0 (fun _ => true) held fuel t [c] = some x) :
    ∃ ao len cap ra rn rc Q, c = .slice ao len cap ∧ len ≤ 9223372036854775807 ∧ LRows w ao len ra rn rc Q := by
  rcases open_slice ht h with ⟨hcs, _⟩ | ⟨a, len, cap, m, n, D, Pl, hcs, _, hl, hm, hmm, _, hx⟩
  · cases hcs
    exact ⟨none, 0, 0, fun _ => none, fun _ => 0, fun _ => 0, fun _ _ => 0, rfl, by omega, fun h => absurd h (by omega)⟩
  · cases hcs
    simp only [if_true] at hmm
    subst hmm
    have each : ∀ i, i < len → ∃ z : Option Addr × Nat × Nat × (Nat → Int), w.cell? (a.add (i * 1 + 0)) = some (.slice z.1 z.2.1 z.2.2.1) ∧ z.2.1 ≤ 9223372036854775807 ∧ (0 < z.2.1 → ∃ b o, z.1 = some ⟨b, o, none⟩ ∧ b < w.heap.size ∧ ∀ j, j < z.2.1 → w.cell? ⟨b, o + j, none⟩ = some (.int .i64 (z.2.2.2 j)) ∧ -9223372036854775808 ≤ z.2.2.2 j ∧ z.2.2.2 j ≤ 9223372036854775807) := by
      intro i hi
      obtain ⟨cs', h1, h2⟩ := hx i (by omega)
      rw [hce] at h1
      obtain ⟨_, hlen, hcell⟩ := World.cells?_some h1
      obtain ⟨ci, hci⟩ : ∃ ci, cs' = [ci] := by
        match cs', hlen with
        | [ci], _ => exact ⟨ci, rfl⟩
      rw [hci] at h2
      obtain ⟨ra, rn, rc, Q, rfl, h3, h4⟩ := row_of he hf hcf h2
      refine ⟨(ra, rn, rc, Q), ?_, h3, h4⟩
      have e1 := hcell 0 (by omega)
      rw [add_add] at e1
      rw [e1, hci]; rfl
    obtain ⟨Z, hZ⟩ := choose_lt (α := Option Addr × Nat × Nat × (Nat → Int)) each
    refine ⟨some a, len, _, fun i => (Z i).1, fun i => (Z i).2.1, fun i => (Z i).2.2.1, fun i => (Z i).2.2.2, rfl, by unfold maxLen at hm; omega, fun hn => ?_⟩
    obtain ⟨b, off, spot⟩ := a
    have hc0 := (hZ 0 hn).1
    have hspot : spot = none := by simpa [Addr.add] using World.cell?_spot hc0
    subst hspot
    refine ⟨b, off, rfl, ?_, fun i hi => ?_⟩
    · rw [Addr.add_lit] at hc0; exact World.block_lt_of_cell? w _ hc0
    · have h1 := hZ i hi
      refine ⟨?_, h1.2.1, h1.2.2⟩
      have h2 := h1.1
      rw [Addr.add_lit] at h2
      simpa using h2

set_option maxRecDepth 100000 in
theorem proved_lifted (os : Os) (started : os.Started) (H : Type) (enc : TypeId × Value → H) :
    ReturnsInHanded {} Try.checked os 5 .any (Rows.provedSpec.pre6 enc Try.prog Try.f5 Rows.provedRow.domain false) (Rows.provedSpec.post enc Try.prog Try.f5 false true false false) := by
  refine returnsInHanded_of_change (C := Try.checked) own started (by kernel_rfl) Try.func5
    (ChangeSpec.witness6 (enc := enc) (C := Try.checked) false ⟨#[], #[.slice none 0 0], []⟩ 8 (by kernel_rfl) (by kernel_rfl) (by kernel_rfl) (by kernel_rfl) (by kernel_rfl)) ?_
  intro W base args ds gs before hval0 hW hcnd _
  have hval : ∀ (j : Nat) t v, Try.f5.params[j]? = some t → args[j]? = some v → Value.okWide Try.prog W .any base t v := hval0
  have hW' := hW
  obtain ⟨p, q, hA0, hV, rfl, hfz, hnd⟩ := hW
  have hA : DataW.TrodAll enc Try.prog W 0 (fun _ => true) true Try.f5.params.toList args.toList ds p := hA0
  rw [Try.params5] at hA hval
  obtain ⟨v0, vs0, d0, ds0, p0, q0, hargs, rfl, rfl, h0, r0⟩ := trodAll_cons hA
  obtain ⟨rfl, rfl, rfl⟩ := trodAll_nil r0
  obtain rfl : args = #[v0] := by cases args; simp_all
  obtain ⟨rfl, rfl⟩ := trodVars_none hV
  have k0 := h0
  have lt0 : ∀ x ∈ p0, x.block < W.heap.size := by obtain ⟨m, hm⟩ := k0; exact DataW.trod_lt m _ _ _ hm
  obtain ⟨fuel, hf⟩ := h0
  have hv1 : v0.cells.toList = [v0] := by
    obtain ⟨a, len, cap, rfl⟩ := okWide_slice Try.underlying28 (hval 0 28 v0 rfl rfl)
    rfl
  rw [hv1] at hf
  obtain ⟨ao, len, cap, ra, rn, rc, Q, rfl, hlen, hL⟩ := rows_of Try.underlying28 Try.underlying37 Try.underlying3 (by kernel_rfl) (by kernel_rfl) hf
  clear hA0 hval0
  refine (proved_walk ao len cap ra rn rc Q W hlen hL).mono fun e W' ⟨he, bel⟩ => ?_
  subst he
  exact ⟨_, rfl, _, _, _, [], _, [], hW', trodAll_mk1 (shut_bool Try.underlying4 _), (trodAll_cons_mk (Below.trod laidOut (by kernel_rfl) (of_decide_eq_true (by kernel_rfl)) k0 bel lt0) trodAll_mk0), rfl, bel.frame _, fun h => by cases h⟩

theorem proved_holds : Rows.ProvedSaid :=
  OpenClaim.holds_of_wide 5 Try.f5 rfl rfl rfl rfl rfl rfl rfl ⟨rfl, rfl, rfl, rfl, rfl⟩ rfl rfl rfl rfl rfl (by kernel_rfl) Try.func5 (by kernel_rfl)
    (of_decide_eq_true (by kernel_rfl)) (by unfold Func.isWrapper; first | (rw [if_pos (by decide +kernel)]; kernel_rfl) | (rw [if_neg (by decide +kernel)]; exact ⟨rfl, rfl⟩))
    (fun os started H enc _ => proved_lifted os started H enc)
#print axioms proved_holds
end Go.Proofs.Ytebinaopncclgaa
