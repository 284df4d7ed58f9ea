/- Walks: the ways of any text; squares that are the same. -/
import Derived.Test.YtebinaopncclgabGreatDoorBetw
namespace Go.Proofs.YtebinaopncclgabGreatDoor
open Go.RowKit Go.IntWalk

set_option maxHeartbeats 400000 in
theorem least_any (a b : Int) (w : World) :
    Calls Tryz.prog 182 #[.int .i64 a, .int .i64 b] w fun e w' => e = .returned (.int .i64 (shorterS a b)) ∧ w' = w := by
  by_cases h1 : a = -1
  · go_enter Tryz.func182, Tryz.ntmps182
    go_wp2
    go_ret
    exact ⟨ret_int (by unfold shorterS; rw [if_pos (Or.inl h1)]), rfl⟩
  · by_cases h2 : b = -1
    · have e1 : (a == -1) = false := by simp [h1]
      go_enter Tryz.func182, Tryz.ntmps182
      go_wp2
      go_ret
      exact ⟨ret_int (by unfold shorterS; rw [if_neg (by omega)]), rfl⟩
    · have e1 : (a == -1) = false := by simp [h1]
      have e2 : (b != -1) = true := by simp [h2]
      by_cases h3 : b < a
      · go_enter Tryz.func182, Tryz.ntmps182
        go_wp2
        go_ret
        exact ⟨ret_int (by unfold shorterS; rw [if_pos (by omega)]), rfl⟩
      · go_enter Tryz.func182, Tryz.ntmps182
        go_wp2
        go_ret
        exact ⟨ret_int (by unfold shorterS; rw [if_neg (by omega)]), rfl⟩
theorem shorter_short {a b : Int} (h : b ≠ -1) : shorterS a b = shortS a b := by
  unfold shorterS shortS
  by_cases h1 : a = -1 ∨ b < a
  · rw [if_pos h1, if_pos (by omega)]
  · rw [if_neg h1, if_neg (by omega)]

/- the ways by one road or none -/
def rdF (T : Nat → Nat → Int) (m : Nat) (i j : Nat) : Int := (List.range m).foldl (fun v k => if T k 0 = (i : Int) ∧ T k 1 = (j : Int) then shorterS v (T k 2) else v) (diagS i j)
theorem rdF_succ (T : Nat → Nat → Int) (m i j : Nat) : rdF T (m + 1) i j = if T m 0 = (i : Int) ∧ T m 1 = (j : Int) then shorterS (rdF T m i j) (T m 2) else rdF T m i j := by
  simp [rdF, List.range_succ]
theorem rdF_roads {rs : List (List Int)} (h : ∀ s ∈ rs, ∃ a b c, s = [a, b, c] ∧ 0 ≤ a ∧ 0 ≤ b ∧ 0 ≤ c) (i j : Nat) : ∀ k, k ≤ rs.length → rdF (cellF rs) k i j = roadsF (rs.take k) i j := by
  intro k
  induction k with
  | zero => intro _; rfl
  | succ k ih =>
    intro hk
    obtain ⟨a, b, c, hs, ha, hb, hc⟩ := h _ (List.getElem_mem (show k < rs.length by omega))
    rw [rdF_succ, ih (by omega), roadsF_snoc (by omega), hs, cellF_at (by omega) hs, cellF_at (by omega) hs, cellF_at (by omega) hs]
    show (if a = (i : Int) ∧ b = (j : Int) then shorterS _ c else _) = upd _ a.toNat b.toNat (shortS _ c) i j
    unfold upd
    by_cases hij : a = (i : Int) ∧ b = (j : Int)
    · rw [if_pos hij, if_pos ⟨by omega, by omega⟩, shorter_short (by omega)]
      show _ = shortS (roadsF (List.take k rs) a.toNat b.toNat) c
      rw [show a.toNat = i by omega, show b.toNat = j by omega]
    · rw [if_neg hij, if_neg (by omega)]

/- a table that is made row by row, of n numbers each; the rows lie in the blocks from B up to U -/
structure GridR (w : World) (B U : Nat) (v : Value) (n : Nat) (D : Nat → Nat → Int) (vs : List Value) : Prop where
  own : w.ownsRow B 40 1 v vs.length vs
  row : ∀ i (h : i < vs.length), ∃ gi ci cur, vs[i] = .slice (some ⟨gi, 0, none⟩) n ci ∧ (B ≤ gi ∧ gi < U) ∧ w.heap[gi]? = some (.cells cur 3 (0, 0)) ∧ ∀ j, j < n → cur[j]? = some (.int .i64 (D i j))
theorem GridR.nil (w : World) (B U n : Nat) (D : Nat → Nat → Int) : GridR w B U (.slice none 0 0) n D [] := ⟨World.ownsRow_nil _ _ _ _, fun i h => absurd h (by simp)⟩
theorem GridR.below {w w' : World} {B U U' n : Nat} {v : Value} {D : Nat → Nat → Int} {vs : List Value} (h : GridR w B U v n D vs) (hb : Below w.heap.size w w') (hU : U ≤ U') : GridR w' B U' v n D vs :=
  ⟨own_below h.own hb, fun i hi => by
    obtain ⟨gi, ci, cur, k1, k2, k3, k4⟩ := h.row i hi
    exact ⟨gi, ci, cur, k1, by omega, by rw [hb.block _ (Array.getElem?_eq_some_iff.1 k3).1]; exact k3, k4⟩⟩
theorem GridR.base {w : World} {B B' U n : Nat} {v : Value} {D : Nat → Nat → Int} {vs : List Value} (h : GridR w B U v n D vs) (hb : B' ≤ B) : GridR w B' U v n D vs :=
  ⟨own_base h.own hb, fun i hi => by
    obtain ⟨gi, ci, cur, k1, k2, k3, k4⟩ := h.row i hi
    exact ⟨gi, ci, cur, k1, by omega, k3, k4⟩⟩
/- the numbers of a table, read -/
theorem GridR.at {w : World} {B U n : Nat} {v : Value} {D : Nat → Nat → Int} {vs : List Value} (h : GridR w B U v n D vs) {i : Nat} (hi : i < vs.length) : ∃ g c gi ci, v = .slice (some ⟨g, 0, none⟩) vs.length c ∧ g < w.heap.size ∧ w.cell? ⟨g, i, none⟩ = some (.slice (some ⟨gi, 0, none⟩) n ci) ∧ gi < w.heap.size ∧ ∀ j, j < n → w.cell? ⟨gi, j, none⟩ = some (.int .i64 (D i j)) := by
  obtain ⟨gi, ci, cur, k1, k2, k3, k4⟩ := h.row i hi
  obtain ⟨g, cap, e, hg, hc⟩ := own_at h.own hi hi
  exact ⟨g, cap, gi, ci, e, hg, by rw [hc, k1], (Array.getElem?_eq_some_iff.1 k3).1, fun j hj => by rw [cell_of_row _ _ _ _ _ _ k3]; exact k4 j hj⟩
/- a row more: it is made, with memory of its own -/
theorem GridR.grown {w w' : World} {B U n : Nat} {v l : Value} {D : Nat → Nat → Int} {vs : List Value} {Bl q : Nat} {zs : List Value} (h : GridR w B U v n D vs) (hl : w.ownsRow Bl 3 1 l q zs) (hB : U ≤ Bl) (hg : w.grownBy w' l.ownBlock) : GridR w' B U v n D vs :=
  ⟨h.own.kept hg (own_ne h.own hl (by decide)), fun i hi => by
    obtain ⟨gi, ci, cur, k1, k2, k3, k4⟩ := h.row i hi
    refine ⟨gi, ci, cur, k1, k2, ?_, k4⟩
    rw [hg.block _ (Array.getElem?_eq_some_iff.1 k3).1 (fun e => by have h5 := (hl.lt _ e.symm).1; omega)]; exact k3⟩
/- and appended -/
theorem GridR.push {w X w' : World} {B U n Bl : Nat} {v v' l : Value} {D : Nat → Nat → Int} {vs zs : List Value} (h : GridR w B U v n D vs) (hl : w.ownsRow Bl 3 1 l n zs) (hn : 0 < n) (hB : B ≤ Bl) (hX : Below w.heap.size w X) (hg : X.grownBy w' v.ownBlock) (ho : w'.ownsRow B 40 1 v' (vs.length + 1) (vs ++ [l]))
    (hz : ∀ j, j < n → zs[j]? = some (.int .i64 (D vs.length j))) : GridR w' B w'.heap.size v' n D (vs ++ [l]) := by
  have hk : Keep [40] w w' := (Keep.of_below hX).trans (Keep.grown (own_below h.own hX) (by simp) hg)
  refine ⟨by rw [List.length_append]; exact ho, fun i hi => ?_⟩
  by_cases hlt : i < vs.length
  · obtain ⟨gi, ci, cur, k1, k2, k3, k4⟩ := h.row i hlt
    have k5 := hk _ _ _ _ k3 (by decide)
    exact ⟨gi, ci, cur, by rw [List.getElem_append_left hlt]; exact k1, ⟨k2.1, (Array.getElem?_eq_some_iff.1 k5).1⟩, k5, k4⟩
  · have hi' : i = vs.length := by simp at hi; omega
    subst hi'
    rcases hl.2 with ⟨_, h0⟩ | ⟨g, cap, cur, rfl, hb, hgc, h1, h2, h3, h4⟩
    · omega
    · have k5 := hk _ _ _ _ hgc (by decide)
      refine ⟨g, cap, cur, by simp, ⟨by omega, (Array.getElem?_eq_some_iff.1 k5).1⟩, k5, fun j hj => ?_⟩
      have h6 := hz j hj
      rw [← h4, List.getElem?_take_of_lt (by omega)] at h6
      simpa using h6

set_option maxRecDepth 100000 in
set_option maxHeartbeats 2000000 in
theorem rroads_any (X0 X1 X2 X4 : Int) (N : Nat) (T : Nat → Nat → Int) (vs0 : Value) (aor : Option Addr) (m capr : Nat) (w : World) (hN : N ≤ 12) (hm : m ≤ 40) (hr : Lies w aor m 3 T) (hvs : ∃ a n c, vs0 = .slice a n c) :
    Calls Tryz.prog 161 #[.agg #[.int .i64 X0, .int .i64 X1, .int .i64 X2, .int .i64 N, .int .i64 X4, vs0, .slice aor m capr]] w fun e w' => ∃ v vs, e = .returned v ∧ vs.length = N ∧ GridR w' w.heap.size w'.heap.size v N (rdF T m) vs ∧ Below w.heap.size w w' := by
  obtain ⟨i0, hi, hz0, hz1, hz2⟩ := info_parts Tryz.infoInt
  obtain ⟨j0, hj, hy0, hy1, hy2⟩ := info_parts Tryz.infoInts
  obtain ⟨a0, n0, c0, rfl⟩ := hvs
  have HR := hid hr
  clear hr
  go_enter Tryz.func161, Tryz.ntmps161
  go_wp2_with fail
  obtain ⟨W, hW⟩ : ∃ W, W = w.alloc (.cells #[.int .i64 X0, .int .i64 X1, .int .i64 X2, .int .i64 N, .int .i64 X4, .slice a0 n0 c0, .slice aor m capr] 28) := ⟨_, rfl⟩
  have HWX : Hid (W.heap[w.heap.size]? = some (.cells #[.int .i64 X0, .int .i64 X1, .int .i64 X2, .int .i64 N, .int .i64 X4, .slice a0 n0 c0, .slice aor m capr] 28 (0, 0))) := by show _ = _; rw [hW]; exact heap_alloc_new w _
  have HWB : Hid (Below w.heap.size w W) := by show Below _ _ _; rw [hW]; exact below1 w _
  have hWs : W.heap.size = w.heap.size + 1 := by rw [hW]; simp
  rw [← hW]
  clear hW
  go_loopw [3, 4] (fun ov i wr => ∃ (k : Nat) (vs : List Value), i = .int .i64 k ∧ k ≤ N ∧ vs.length = k ∧ Hid (GridR wr W.heap.size wr.heap.size ov N (rdF T m) vs) ∧ Hid (Below W.heap.size W wr)) (fun _ i _ => N - (intOf i).toNat)
  case atStart => exact ⟨0, [], rfl, by omega, rfl, GridR.nil _ _ _ _ _, Below.refl _ _⟩
  case round =>
    obtain ⟨k, vs, rfl, hk, hvl, HG, HB⟩ := hrel
    have hbs := HB.out.size
    have hxb := (HB.out.block _ (by omega : w.heap.size < W.heap.size)).trans HWX.out
    have d3 : wr.cell? ⟨w.heap.size, 3, none⟩ = some (.int .i64 N) := by rw [cell_of_row _ _ _ _ _ _ hxb]; rfl
    have hxl : w.heap.size < wr.heap.size := by omega
    obtain ⟨avo, cvo, hov, _, _⟩ := own_val HG.out.own
    rw [hvl] at hov
    subst hov
    clear hxb
    by_cases hlt : k < N
    · obtain ⟨wo, hwo⟩ : ∃ wo, wo = wr := ⟨_, rfl⟩
      have HG0 : Hid (GridR wo W.heap.size wo.heap.size (.slice avo k cvo) N (rdF T m) vs) := by show GridR _ _ _ _ _ _ _; rw [hwo]; exact HG.out
      have HB0 : Hid (Below W.heap.size W wo) := by show Below _ _ _; rw [hwo]; exact HB.out
      have hbs0 : W.heap.size ≤ wo.heap.size := HB0.out.size
      go_wp2_with fail
      rw [← hwo]
      clear hwo HG HB hbs d3 hxl
      go_loopw [5, 6] (fun l j wr => ∃ q : Nat, j = .int .i64 q ∧ q ≤ N ∧ Hid (wr.ownsRow wo.heap.size 3 1 l q (ints ((List.range q).map (rdF T m k)))) ∧ Hid (GridR wr W.heap.size wo.heap.size (.slice avo k cvo) N (rdF T m) vs) ∧ Hid (Below wo.heap.size wo wr)) (fun _ j _ => N - (intOf j).toNat)
      case atStart => exact ⟨0, rfl, by omega, World.ownsRow_nil _ _ _ _, HG0, Below.refl _ _⟩
      case round =>
        obtain ⟨q, rfl, hq, HL, HG, HB⟩ := hrel
        have hbs := HB.out.size
        have hxb := (HB.out.block _ (by omega : w.heap.size < wo.heap.size)).trans ((HB0.out.block _ (by omega : w.heap.size < W.heap.size)).trans HWX.out)
        have d3 : wr.cell? ⟨w.heap.size, 3, none⟩ = some (.int .i64 N) := by rw [cell_of_row _ _ _ _ _ _ hxb]; rfl
        have hxl : w.heap.size < wr.heap.size := by omega
        obtain ⟨avl, cvl, hlv, _, _⟩ := own_val HL.out
        subst hlv
        by_cases hlq : q < N
        · obtain ⟨wi, hwi⟩ : ∃ wi, wi = wr := ⟨_, rfl⟩
          have HXI : Hid (wi.heap[w.heap.size]? = some (.cells #[.int .i64 X0, .int .i64 X1, .int .i64 X2, .int .i64 N, .int .i64 X4, .slice a0 n0 c0, .slice aor m capr] 28 (0, 0))) := by show _ = _; rw [hwi]; exact hxb
          have HL0 : Hid (wi.ownsRow wo.heap.size 3 1 (.slice avl q cvl) q (ints ((List.range q).map (rdF T m k)))) := by show World.ownsRow _ _ _ _ _ _ _; rw [hwi]; exact HL.out
          have HG1 : Hid (GridR wi W.heap.size wo.heap.size (.slice avo k cvo) N (rdF T m) vs) := by show GridR _ _ _ _ _ _ _; rw [hwi]; exact HG.out
          have HB1 : Hid (Below wo.heap.size wo wi) := by show Below _ _ _; rw [hwi]; exact HB.out
          have hbi : wo.heap.size ≤ wi.heap.size := HB1.out.size
          have hwl : Lies wi aor m 3 T := HR.out.below (HWB.out.trans ((HB0.out.mono (by omega)).trans (HB1.out.mono (by omega))))
          have HWL := hid hwl
          clear hxb hwl
          by_cases hkq : (k : Int) = (q : Int)
          · have HD : Hid (rdF T 0 k q = 0) := by show diagS k q = 0; unfold diagS; rw [if_pos (by omega)]
            go_wp2_with fail
            rw [← hwi]
            clear hwi HL HG HB hbs d3 hxl hkq
            go_loopw [7, 8] (fun v i wr => ∃ p : Nat, i = .int .i64 p ∧ v = .int .i64 (rdF T p k q) ∧ p ≤ m ∧ Hid (Below wi.heap.size wi wr)) (fun _ i _ => m - (intOf i).toNat)
            case atStart => exact ⟨0, rfl, by rw [HD.out], by omega, Below.refl _ _⟩
            case round =>
              obtain ⟨p, rfl, rfl, hp, HC⟩ := hrel
              have hcs := HC.out.size
              have hxb := (HC.out.block _ (by omega : w.heap.size < wi.heap.size)).trans HXI.out
              have d6 : wr.cell? ⟨w.heap.size, 6, none⟩ = some (.slice aor m capr) := by rw [cell_of_row _ _ _ _ _ _ hxb]; rfl
              have hxl2 : w.heap.size < wr.heap.size := by omega
              clear hxb
              by_cases hlp : p < m
              · obtain ⟨g, o, rfl, hgl, hc⟩ := HWL.out (by omega)
                have hcl : ∀ j, j < 3 → wr.cell? ⟨g, o + p * 3 + j, none⟩ = some (.int .i64 (T p j)) := fun j hj => (HC.out.cell (by exact hgl)).trans (hc p j hlp hj)
                have y0 : wr.cell? ⟨g, o + p * 3, none⟩ = some (.int .i64 (T p 0)) := hcl 0 (by omega)
                have y1 : wr.cell? ⟨g, o + p * 3 + 1, none⟩ = some (.int .i64 (T p 1)) := hcl 1 (by omega)
                have y2 : wr.cell? ⟨g, o + p * 3 + 2, none⟩ = some (.int .i64 (T p 2)) := hcl 2 (by omega)
                have hgr : g < wr.heap.size := by omega
                have HS := hid (rdF_succ T p k q)
                clear hcl hc
                generalize T p 0 = ra at *
                generalize T p 1 = rb at *
                generalize T p 2 = rc at *
                by_cases ha : ra = (k : Int)
                · by_cases hb : rb = (q : Int)
                  · have HV : Hid (rdF T (p + 1) k q = shorterS (rdF T p k q) rc) := by show _ = _; rw [HS.out, if_pos ⟨ha, hb⟩]
                    generalize rdF T p k q = vv at *
                    have e1 : (ra == (k : Int)) = true := by simp [ha]
                    have e2 : (rb == (q : Int)) = true := by simp [hb]
                    clear ha hb HS
                    go_wp2_with (go_at_call 182; refine (least_any _ _ _).mono ?_; rintro e5 w5 ⟨rfl, rfl⟩)
                    go_roundw
                    case rel => exact ⟨p + 1, by go_num, by rw [HV.out], by omega, by first | exact HC | exact HC.out.drew⟩
                    case measure => simp [intOf]; omega
                  · have HV : Hid (rdF T (p + 1) k q = rdF T p k q) := by show _ = _; rw [HS.out, if_neg (fun h => hb h.2)]
                    generalize rdF T p k q = vv at *
                    have e1 : (ra == (k : Int)) = true := by simp [ha]
                    have e2 : (rb == (q : Int)) = false := by simp [hb]
                    clear ha hb HS
                    go_wp2
                    go_roundw
                    case rel => exact ⟨p + 1, by go_num, by rw [HV.out], by omega, by first | exact HC | exact HC.out.drew⟩
                    case measure => simp [intOf]; omega
                · have HV : Hid (rdF T (p + 1) k q = rdF T p k q) := by show _ = _; rw [HS.out, if_neg (fun h => ha h.1)]
                  generalize rdF T p k q = vv at *
                  have e1 : (ra == (k : Int)) = false := by simp [ha]
                  clear ha HS
                  go_wp2
                  go_roundw
                  case rel => exact ⟨p + 1, by go_num, by rw [HV.out], by omega, by first | exact HC | exact HC.out.drew⟩
                  case measure => simp [intOf]; omega
              · have hpm : p = m := by omega
                have HL1 := hid (own_below HL0.out HC.out)
                have HG2 := hid (HG1.out.below HC.out (Nat.le_refl _))
                have HV : Hid (rdF T p k q = rdF T m k q) := by show _ = _; rw [hpm]
                have hbo : Below wo.heap.size wo wr := HB1.out.trans (HC.out.mono hbi)
                have HBO := hid hbo
                clear hpm hbo
                generalize rdF T p k q = vv at *
                go_wp2_with (at_builtin; refine wpList_append_own _ rfl _ _ 40 rfl wo.heap.size 3 i0 (.int .i64 0) 1 8 Tryz.underlying40 hi hz0 hz1 hz2 rfl (by decide) _ _ _ rfl (HL1.out.alloc _) ⟨wr.heap.size, 0, none⟩ 1 1 [.int .i64 vv] rfl rfl ?c1 ?c2 ?c3 ?c4 ?c5 ?_)
                case c1 => exact news_at rfl rfl
                case c2 => intro u hu; simp at hu; subst hu; rfl
                case c3 => unfold maxLen; omega
                case c4 => omega
                case c5 => simp; omega
                intro v' w6 hown6 hgr6 _
                have HL2 : Hid (w6.ownsRow wo.heap.size 3 1 v' (q + 1) (ints ((List.range (q + 1)).map (rdF T m k)))) := by
                  show World.ownsRow _ _ _ _ _ _ _
                  have e : ints ((List.range (q + 1)).map (rdF T m k)) = ints ((List.range q).map (rdF T m k)) ++ [.int .i64 vv] := by rw [HV.out]; simp [ints, List.range_succ]
                  rw [e]; exact hown6
                have hgg : (wr.alloc (.cells #[.int .i64 vv] 3)).grownBy w6 (Value.slice avl q cvl).ownBlock := hgr6
                have HG3 : Hid (GridR w6 W.heap.size wo.heap.size (.slice avo k cvo) N (rdF T m) vs) := (HG2.out.below (below1 wr _) (Nat.le_refl _)).grown (own_below HL1.out (below1 wr _)) (Nat.le_refl _) hgg
                have HB3 : Hid (Below wo.heap.size wo w6) := (HBO.out.trans ((below1 wr _).mono HBO.out.size)).grown hgg (by have := HBO.out.size; simp; omega) (fun x hx => (HL1.out.lt x hx).1)
                obtain ⟨_, _, hv6, _, _⟩ := own_val HL2.out
                subst hv6
                clear hown6 hgr6 hgg
                go_wp2
                go_roundw
                case rel => exact ⟨q + 1, by go_num, by omega, HL2, HG3, HB3⟩
                case measure => simp [intOf]; omega
          · have HD : Hid (rdF T 0 k q = -1) := by show diagS k q = -1; unfold diagS; rw [if_neg (by omega)]
            have hkb : ((k : Int) == (q : Int)) = false := by simp; omega
            go_wp2_with fail
            rw [← hwi]
            clear hwi HL HG HB hbs d3 hxl hkq hkb
            go_loopw [7, 8] (fun v i wr => ∃ p : Nat, i = .int .i64 p ∧ v = .int .i64 (rdF T p k q) ∧ p ≤ m ∧ Hid (Below wi.heap.size wi wr)) (fun _ i _ => m - (intOf i).toNat)
            case atStart => exact ⟨0, rfl, by rw [HD.out], by omega, Below.refl _ _⟩
            case round =>
              obtain ⟨p, rfl, rfl, hp, HC⟩ := hrel
              have hcs := HC.out.size
              have hxb := (HC.out.block _ (by omega : w.heap.size < wi.heap.size)).trans HXI.out
              have d6 : wr.cell? ⟨w.heap.size, 6, none⟩ = some (.slice aor m capr) := by rw [cell_of_row _ _ _ _ _ _ hxb]; rfl
              have hxl2 : w.heap.size < wr.heap.size := by omega
              clear hxb
              by_cases hlp : p < m
              · obtain ⟨g, o, rfl, hgl, hc⟩ := HWL.out (by omega)
                have hcl : ∀ j, j < 3 → wr.cell? ⟨g, o + p * 3 + j, none⟩ = some (.int .i64 (T p j)) := fun j hj => (HC.out.cell (by exact hgl)).trans (hc p j hlp hj)
                have y0 : wr.cell? ⟨g, o + p * 3, none⟩ = some (.int .i64 (T p 0)) := hcl 0 (by omega)
                have y1 : wr.cell? ⟨g, o + p * 3 + 1, none⟩ = some (.int .i64 (T p 1)) := hcl 1 (by omega)
                have y2 : wr.cell? ⟨g, o + p * 3 + 2, none⟩ = some (.int .i64 (T p 2)) := hcl 2 (by omega)
                have hgr : g < wr.heap.size := by omega
                have HS := hid (rdF_succ T p k q)
                clear hcl hc
                generalize T p 0 = ra at *
                generalize T p 1 = rb at *
                generalize T p 2 = rc at *
                by_cases ha : ra = (k : Int)
                · by_cases hb : rb = (q : Int)
                  · have HV : Hid (rdF T (p + 1) k q = shorterS (rdF T p k q) rc) := by show _ = _; rw [HS.out, if_pos ⟨ha, hb⟩]
                    generalize rdF T p k q = vv at *
                    have e1 : (ra == (k : Int)) = true := by simp [ha]
                    have e2 : (rb == (q : Int)) = true := by simp [hb]
                    clear ha hb HS
                    go_wp2_with (go_at_call 182; refine (least_any _ _ _).mono ?_; rintro e5 w5 ⟨rfl, rfl⟩)
                    go_roundw
                    case rel => exact ⟨p + 1, by go_num, by rw [HV.out], by omega, by first | exact HC | exact HC.out.drew⟩
                    case measure => simp [intOf]; omega
                  · have HV : Hid (rdF T (p + 1) k q = rdF T p k q) := by show _ = _; rw [HS.out, if_neg (fun h => hb h.2)]
                    generalize rdF T p k q = vv at *
                    have e1 : (ra == (k : Int)) = true := by simp [ha]
                    have e2 : (rb == (q : Int)) = false := by simp [hb]
                    clear ha hb HS
                    go_wp2
                    go_roundw
                    case rel => exact ⟨p + 1, by go_num, by rw [HV.out], by omega, by first | exact HC | exact HC.out.drew⟩
                    case measure => simp [intOf]; omega
                · have HV : Hid (rdF T (p + 1) k q = rdF T p k q) := by show _ = _; rw [HS.out, if_neg (fun h => ha h.1)]
                  generalize rdF T p k q = vv at *
                  have e1 : (ra == (k : Int)) = false := by simp [ha]
                  clear ha HS
                  go_wp2
                  go_roundw
                  case rel => exact ⟨p + 1, by go_num, by rw [HV.out], by omega, by first | exact HC | exact HC.out.drew⟩
                  case measure => simp [intOf]; omega
              · have hpm : p = m := by omega
                have HL1 := hid (own_below HL0.out HC.out)
                have HG2 := hid (HG1.out.below HC.out (Nat.le_refl _))
                have HV : Hid (rdF T p k q = rdF T m k q) := by show _ = _; rw [hpm]
                have hbo : Below wo.heap.size wo wr := HB1.out.trans (HC.out.mono hbi)
                have HBO := hid hbo
                clear hpm hbo
                generalize rdF T p k q = vv at *
                go_wp2_with (at_builtin; refine wpList_append_own _ rfl _ _ 40 rfl wo.heap.size 3 i0 (.int .i64 0) 1 8 Tryz.underlying40 hi hz0 hz1 hz2 rfl (by decide) _ _ _ rfl (HL1.out.alloc _) ⟨wr.heap.size, 0, none⟩ 1 1 [.int .i64 vv] rfl rfl ?c1 ?c2 ?c3 ?c4 ?c5 ?_)
                case c1 => exact news_at rfl rfl
                case c2 => intro u hu; simp at hu; subst hu; rfl
                case c3 => unfold maxLen; omega
                case c4 => omega
                case c5 => simp; omega
                intro v' w6 hown6 hgr6 _
                have HL2 : Hid (w6.ownsRow wo.heap.size 3 1 v' (q + 1) (ints ((List.range (q + 1)).map (rdF T m k)))) := by
                  show World.ownsRow _ _ _ _ _ _ _
                  have e : ints ((List.range (q + 1)).map (rdF T m k)) = ints ((List.range q).map (rdF T m k)) ++ [.int .i64 vv] := by rw [HV.out]; simp [ints, List.range_succ]
                  rw [e]; exact hown6
                have hgg : (wr.alloc (.cells #[.int .i64 vv] 3)).grownBy w6 (Value.slice avl q cvl).ownBlock := hgr6
                have HG3 : Hid (GridR w6 W.heap.size wo.heap.size (.slice avo k cvo) N (rdF T m) vs) := (HG2.out.below (below1 wr _) (Nat.le_refl _)).grown (own_below HL1.out (below1 wr _)) (Nat.le_refl _) hgg
                have HB3 : Hid (Below wo.heap.size wo w6) := (HBO.out.trans ((below1 wr _).mono HBO.out.size)).grown hgg (by have := HBO.out.size; simp; omega) (fun x hx => (HL1.out.lt x hx).1)
                obtain ⟨_, _, hv6, _, _⟩ := own_val HL2.out
                subst hv6
                clear hown6 hgr6 hgg
                go_wp2
                go_roundw
                case rel => exact ⟨q + 1, by go_num, by omega, HL2, HG3, HB3⟩
                case measure => simp [intOf]; omega
        · have hqn : q = N := by omega
          subst hqn
          go_wp2_with (at_builtin; refine wpList_append_own _ rfl _ _ 31 rfl W.heap.size 40 j0 (.slice none 0 0) 1 24 Tryz.underlying31 hj hy0 hy1 hy2 rfl (by decide) _ _ _ rfl ((HG.out.own).alloc _) ⟨wr.heap.size, 0, none⟩ 1 1 [.slice avl q cvl] rfl rfl ?c1 ?c2 ?c3 ?c4 ?c5 ?_)
          case c1 => exact news_at rfl rfl
          case c2 => intro u hu; simp at hu; subst hu; rfl
          case c3 => unfold maxLen; omega
          case c4 => omega
          case c5 => simp; omega
          intro v7 w7 hown7 hgr7 _
          have hgg : (wr.alloc (.cells #[.slice avl q cvl] 40)).grownBy w7 (Value.slice avo k cvo).ownBlock := hgr7
          have HG7 : Hid (GridR w7 W.heap.size w7.heap.size v7 q (rdF T m) (vs ++ [.slice avl q cvl])) := HG.out.push HL.out (by omega) (by omega) (below1 wr _) hgg (by rw [hvl, hWs]; exact hown7) (fun j hj => by rw [hvl]; simp [ints, hj])
          have HB7 : Hid (Below W.heap.size W w7) := ((HB0.out.trans (HB.out.mono hbs0)).trans ((below1 wr _).mono (by omega))).grown hgg (by simp; omega) (fun x hx => (HG.out.own.lt x (by rw [hx])).1)
          obtain ⟨_, _, hv7, _, _⟩ := own_val hown7
          subst hv7
          clear hown7 hgr7 hgg HL HG HB hxb d3
          go_wp2
          go_roundw
          case rel => exact ⟨k + 1, _, by go_num, by omega, by simp [hvl], HG7, HB7⟩
          case measure => simp [intOf]; omega
    · go_wp2
      go_ret
      have hkn : k = N := by omega
      exact ⟨_, vs, rfl, by omega, (HG.out.base (by omega)), HWB.out.trans (HB.out.mono (by omega))⟩
end Go.Proofs.YtebinaopncclgabGreatDoor
namespace Go.Proofs.YtebinaopncclgabGreatDoor
open Go.RowKit Go.IntWalk

set_option maxRecDepth 100000 in
set_option maxHeartbeats 2000000 in
theorem over_any (B U N k : Nat) (v0 : Value) (F : Nat → Nat → Int) (vs0 : List Value) (w : World) (hN : N ≤ 12) (hk : k < N) (hl : vs0.length = N) (hF : ∀ a b, a < N → b < N → -1 ≤ F a b ∧ F a b ≤ 40960000) (h : GridR w B U v0 N F vs0) :
    Calls Tryz.prog 162 #[v0, .int .i64 k] w fun e w' => ∃ v vs, e = .returned v ∧ vs.length = N ∧ GridR w' w.heap.size w'.heap.size v N (gF k F) vs ∧ Below w.heap.size w w' := by
  obtain ⟨i0, hi, hz0, hz1, hz2⟩ := info_parts Tryz.infoInt
  obtain ⟨j0, hj, hy0, hy1, hy2⟩ := info_parts Tryz.infoInts
  have HH := hid h
  have HF := hid hF
  have HVL := hid hl
  obtain ⟨a0, c0, hv0, _, _⟩ := own_val h.own
  rw [hl] at hv0
  subst hv0
  clear h hF hl
  go_enter Tryz.func162, Tryz.ntmps162
  go_wp2_with fail
  go_loopw [5, 6] (fun ov i wr => ∃ (p : Nat) (vs : List Value), i = .int .i64 p ∧ p ≤ N ∧ vs.length = p ∧ Hid (GridR wr w.heap.size wr.heap.size ov N (gF k F) vs) ∧ Hid (Below w.heap.size w wr)) (fun _ i _ => N - (intOf i).toNat)
  case atStart => exact ⟨0, [], rfl, by omega, rfl, GridR.nil _ _ _ _ _, Below.refl _ _⟩
  case round =>
    obtain ⟨p, vs, rfl, hp, hvl, HG, HB⟩ := hrel
    have hbs := HB.out.size
    obtain ⟨avo, cvo, hov, _, _⟩ := own_val HG.out.own
    rw [hvl] at hov
    subst hov
    by_cases hlt : p < N
    · obtain ⟨wo, hwo⟩ : ∃ wo, wo = wr := ⟨_, rfl⟩
      have HG0 : Hid (GridR wo w.heap.size wo.heap.size (.slice avo p cvo) N (gF k F) vs) := by show GridR _ _ _ _ _ _ _; rw [hwo]; exact HG.out
      have HB0 : Hid (Below w.heap.size w wo) := by show Below _ _ _; rw [hwo]; exact HB.out
      have hbs0 : w.heap.size ≤ wo.heap.size := HB0.out.size
      go_wp2_with fail
      rw [← hwo]
      clear hwo HG HB hbs
      go_loopw [7, 8] (fun l j wr => ∃ q : Nat, j = .int .i64 q ∧ q ≤ N ∧ Hid (wr.ownsRow wo.heap.size 3 1 l q (ints ((List.range q).map (gF k F p)))) ∧ Hid (GridR wr w.heap.size wo.heap.size (.slice avo p cvo) N (gF k F) vs) ∧ Hid (Below wo.heap.size wo wr)) (fun _ j _ => N - (intOf j).toNat)
      case atStart => exact ⟨0, rfl, by omega, World.ownsRow_nil _ _ _ _, HG0, Below.refl _ _⟩
      case round =>
        obtain ⟨q, rfl, hq, HL, HG, HB⟩ := hrel
        have hbs := HB.out.size
        obtain ⟨avl, cvl, hlv, _, _⟩ := own_val HL.out
        subst hlv
        by_cases hlq : q < N
        · have hsrc := HH.out.below (HB0.out.trans (HB.out.mono hbs0)) (Nat.le_refl U)
          obtain ⟨g, c, gp, cp, e1, hg, x1, hgp, y1⟩ := hsrc.at (i := p) (by rw [HVL.out]; exact hlt)
          obtain ⟨g', c', gk, ck, e2, _, x2, hgk, y2⟩ := hsrc.at (i := k) (by rw [HVL.out]; exact hk)
          rw [HVL.out] at e1 e2
          cases e1
          cases e2
          have x3 := y1 q hlq
          have x4 := y1 k hk
          have x5 := y2 q hlq
          clear y1 y2 hsrc
          have f1 := HF.out p k hlt hk
          have f2 := HF.out k q hk hlq
          have HGF : Hid (gF k F p q = if F p k ≠ -1 ∧ F k q ≠ -1 then shortS (F p q) (F p k + F k q) else F p q) := rfl
          generalize F p q = A at *
          generalize F p k = Bv at *
          generalize F k q = Cv at *
          by_cases hb : Bv = -1
          · have HV : Hid (gF k F p q = A) := by show _ = _; rw [HGF.out, if_neg (by omega)]
            have e1 : (Bv != -1) = false := by simp [hb]
            clear HGF f1 f2 hb
            go_wp2_with (first
              | (go_at_call 182; refine (least_any _ _ _).mono ?_; rintro e5 w5 ⟨rfl, rfl⟩)
              | (at_builtin; refine wpList_append_own _ rfl _ _ 40 rfl wo.heap.size 3 i0 (.int .i64 0) 1 8 Tryz.underlying40 hi hz0 hz1 hz2 rfl (by decide) _ _ _ rfl (HL.out.alloc _) ⟨wr.heap.size, 0, none⟩ 1 1 [.int .i64 A] rfl rfl ?c1 ?c2 ?c3 ?c4 ?c5 ?_))
            case c1 => exact news_at rfl rfl
            case c2 => intro u hu; simp at hu; subst hu; rfl
            case c3 => unfold maxLen; omega
            case c4 => omega
            case c5 => simp; omega
            intro v' w6 hown6 hgr6 _
            have HL2 : Hid (w6.ownsRow wo.heap.size 3 1 v' (q + 1) (ints ((List.range (q + 1)).map (gF k F p)))) := by
              show World.ownsRow _ _ _ _ _ _ _
              have e : ints ((List.range (q + 1)).map (gF k F p)) = ints ((List.range q).map (gF k F p)) ++ [.int .i64 A] := by rw [← HV.out]; simp [ints, List.range_succ]
              rw [e]; exact hown6
            have hgg : (wr.alloc (.cells #[.int .i64 A] 3)).grownBy w6 (Value.slice avl q cvl).ownBlock := hgr6
            have HG3 : Hid (GridR w6 w.heap.size wo.heap.size (.slice avo p cvo) N (gF k F) vs) := (HG.out.below (below1 wr _) (Nat.le_refl _)).grown (own_below HL.out (below1 wr _)) (Nat.le_refl _) hgg
            have HB3 : Hid (Below wo.heap.size wo w6) := (HB.out.trans ((below1 wr _).mono HB.out.size)).grown hgg (by have := HB.out.size; simp; omega) (fun x hx => (HL.out.lt x hx).1)
            obtain ⟨_, _, hv6, _, _⟩ := own_val HL2.out
            subst hv6
            clear hown6 hgr6 hgg x1 x2 x3 x4 x5
            go_wp2
            go_roundw
            case rel => exact ⟨q + 1, by go_num, by omega, HL2, HG3, HB3⟩
            case measure => simp [intOf]; omega
          · by_cases hc : Cv = -1
            · have HV : Hid (gF k F p q = A) := by show _ = _; rw [HGF.out, if_neg (by omega)]
              have e1 : (Bv != -1) = true := by simp [hb]
              have e2 : (Cv != -1) = false := by simp [hc]
              clear HGF f1 f2 hb hc
              go_wp2_with (first
                | (go_at_call 182; refine (least_any _ _ _).mono ?_; rintro e5 w5 ⟨rfl, rfl⟩)
                | (at_builtin; refine wpList_append_own _ rfl _ _ 40 rfl wo.heap.size 3 i0 (.int .i64 0) 1 8 Tryz.underlying40 hi hz0 hz1 hz2 rfl (by decide) _ _ _ rfl (HL.out.alloc _) ⟨wr.heap.size, 0, none⟩ 1 1 [.int .i64 A] rfl rfl ?c1 ?c2 ?c3 ?c4 ?c5 ?_))
              case c1 => exact news_at rfl rfl
              case c2 => intro u hu; simp at hu; subst hu; rfl
              case c3 => unfold maxLen; omega
              case c4 => omega
              case c5 => simp; omega
              intro v' w6 hown6 hgr6 _
              have HL2 : Hid (w6.ownsRow wo.heap.size 3 1 v' (q + 1) (ints ((List.range (q + 1)).map (gF k F p)))) := by
                show World.ownsRow _ _ _ _ _ _ _
                have e : ints ((List.range (q + 1)).map (gF k F p)) = ints ((List.range q).map (gF k F p)) ++ [.int .i64 A] := by rw [← HV.out]; simp [ints, List.range_succ]
                rw [e]; exact hown6
              have hgg : (wr.alloc (.cells #[.int .i64 A] 3)).grownBy w6 (Value.slice avl q cvl).ownBlock := hgr6
              have HG3 : Hid (GridR w6 w.heap.size wo.heap.size (.slice avo p cvo) N (gF k F) vs) := (HG.out.below (below1 wr _) (Nat.le_refl _)).grown (own_below HL.out (below1 wr _)) (Nat.le_refl _) hgg
              have HB3 : Hid (Below wo.heap.size wo w6) := (HB.out.trans ((below1 wr _).mono HB.out.size)).grown hgg (by have := HB.out.size; simp; omega) (fun x hx => (HL.out.lt x hx).1)
              obtain ⟨_, _, hv6, _, _⟩ := own_val HL2.out
              subst hv6
              clear hown6 hgr6 hgg x1 x2 x3 x4 x5
              go_wp2
              go_roundw
              case rel => exact ⟨q + 1, by go_num, by omega, HL2, HG3, HB3⟩
              case measure => simp [intOf]; omega
            · have HV : Hid (gF k F p q = shorterS A (Bv + Cv)) := by show _ = _; rw [HGF.out, if_pos ⟨hb, hc⟩, shorter_short (by omega)]
              have e1 : (Bv != -1) = true := by simp [hb]
              have e2 : (Cv != -1) = true := by simp [hc]
              clear HGF
              have ip : (0 : Int) ≤ (p : Int) := by omega
              have jp : (p : Int) < (N : Int) := by omega
              have iq : (0 : Int) ≤ (q : Int) := by omega
              have jq : (q : Int) < (N : Int) := by omega
              have ik : (0 : Int) ≤ (k : Int) := by omega
              have jk : (k : Int) < (N : Int) := by omega
              have hww : IntKind.i64.wrap (Bv + Cv) = Bv + Cv := i64_fits _ (by omega)
              go_wp2_with fail
              go_region_held3 (fun w' => w'.cell? ⟨g, p, none⟩ = some (.slice (some ⟨gp, 0, none⟩) N cp) ∧ w'.cell? ⟨g, k, none⟩ = some (.slice (some ⟨gk, 0, none⟩) N ck) ∧ w'.cell? ⟨gp, q, none⟩ = some (.int .i64 A) ∧ w'.cell? ⟨gp, k, none⟩ = some (.int .i64 Bv) ∧ w'.cell? ⟨gk, q, none⟩ = some (.int .i64 Cv)) (go_keep)
                (first
                  | (go_at_call 182; refine (least_any _ _ _).mono ?_; rintro e5 w5 ⟨rfl, rfl⟩))
              clear hww f1 f2 hb hc
              generalize shorterS A (Bv + Cv) = VV at *
              go_wp2_with (at_builtin; refine wpList_append_own _ rfl _ _ 40 rfl wo.heap.size 3 i0 (.int .i64 0) 1 8 Tryz.underlying40 hi hz0 hz1 hz2 rfl (by decide) _ _ _ rfl (HL.out.alloc _) ⟨wr.heap.size, 0, none⟩ 1 1 [.int .i64 VV] rfl rfl ?c1 ?c2 ?c3 ?c4 ?c5 ?_)
              case c1 => exact news_at (w := wr) rfl rfl
              case c2 => intro u hu; simp at hu; subst hu; rfl
              case c3 => unfold maxLen; omega
              case c4 => omega
              case c5 => simp; omega
              intro v' w6 hown6 hgr6 _
              have HL2 : Hid (w6.ownsRow wo.heap.size 3 1 v' (q + 1) (ints ((List.range (q + 1)).map (gF k F p)))) := by
                show World.ownsRow _ _ _ _ _ _ _
                have e : ints ((List.range (q + 1)).map (gF k F p)) = ints ((List.range q).map (gF k F p)) ++ [.int .i64 VV] := by rw [← HV.out]; simp [ints, List.range_succ]
                rw [e]; exact hown6
              have hgg : (wr.alloc (.cells #[.int .i64 VV] 3)).grownBy w6 (Value.slice avl q cvl).ownBlock := ⟨hgr6.os, hgr6.tape, hgr6.output, hgr6.size, hgr6.block⟩
              have HG3 : Hid (GridR w6 w.heap.size wo.heap.size (.slice avo p cvo) N (gF k F) vs) := (HG.out.below (below1 wr _) (Nat.le_refl _)).grown (own_below HL.out (below1 wr _)) (Nat.le_refl _) hgg
              have HB3 : Hid (Below wo.heap.size wo w6) := (HB.out.trans ((below1 wr _).mono HB.out.size)).grown hgg (by have := HB.out.size; simp; omega) (fun x hx => (HL.out.lt x hx).1)
              obtain ⟨_, _, hv6, _, _⟩ := own_val HL2.out
              subst hv6
              clear hown6 hgr6 hgg x1 x2 x3 x4 x5
              go_wp2
              go_roundw
              case rel => exact ⟨q + 1, by go_num, by omega, HL2, HG3, HB3⟩
              case measure => simp [intOf]; omega
        · have hqn : q = N := by omega
          subst hqn
          go_wp2_with (at_builtin; refine wpList_append_own _ rfl _ _ 31 rfl w.heap.size 40 j0 (.slice none 0 0) 1 24 Tryz.underlying31 hj hy0 hy1 hy2 rfl (by decide) _ _ _ rfl ((HG.out.own).alloc _) ⟨wr.heap.size, 0, none⟩ 1 1 [.slice avl q cvl] rfl rfl ?c1 ?c2 ?c3 ?c4 ?c5 ?_)
          case c1 => exact news_at rfl rfl
          case c2 => intro u hu; simp at hu; subst hu; rfl
          case c3 => unfold maxLen; omega
          case c4 => omega
          case c5 => simp; omega
          intro v7 w7 hown7 hgr7 _
          have hgg : (wr.alloc (.cells #[.slice avl q cvl] 40)).grownBy w7 (Value.slice avo p cvo).ownBlock := hgr7
          have HG7 : Hid (GridR w7 w.heap.size w7.heap.size v7 q (gF k F) (vs ++ [.slice avl q cvl])) := HG.out.push HL.out (by omega) (by omega) (below1 wr _) hgg (by rw [hvl]; exact hown7) (fun j hj => by rw [hvl]; simp [ints, hj])
          have HB7 : Hid (Below w.heap.size w w7) := ((HB0.out.trans (HB.out.mono hbs0)).trans ((below1 wr _).mono (by omega))).grown hgg (by simp; omega) (fun x hx => (HG.out.own.lt x (by rw [hx])).1)
          obtain ⟨_, _, hv7, _, _⟩ := own_val hown7
          subst hv7
          clear hown7 hgr7 hgg HL HG HB
          go_wp2
          go_roundw
          case rel => exact ⟨p + 1, _, by go_num, by omega, by simp [hvl], HG7, HB7⟩
          case measure => simp [intOf]; omega
    · go_wp2
      go_ret
      exact ⟨_, vs, rfl, by omega, HG.out, HB.out⟩
end Go.Proofs.YtebinaopncclgabGreatDoor
namespace Go.Proofs.YtebinaopncclgabGreatDoor
open Go.RowKit Go.IntWalk

set_option maxHeartbeats 2000000 in
theorem rspot_any (B i : Nat) (r : Rd) (vs vr : Value) (w : World) (hn : RdNice r) (hi : i < r.stops.length + 1) (hs : w.ownsRow B 62 5 vs r.stops.length (ints r.stops.flatten)) :
    Calls Tryz.prog 163 #[inst r vs vr, .int .i64 i] w fun e w' => e = .returned (.int .i64 ((sites r).getD i 0)) ∧ Below w.heap.size w w' := by
  have hns := hn.nstops
  obtain ⟨aos, caps, rfl, has, hsn⟩ := own_val hs
  unfold inst
  cases i with
  | zero =>
    clear hs has hsn
    go_enter Tryz.func163, Tryz.ntmps163
    go_wp2
    go_ret
    exact ⟨ret_int (by simp [sites]), below1 _ _⟩
  | succ k =>
    obtain ⟨g, rfl, hgl⟩ := some_of has hsn (by omega)
    have hlt : k < r.stops.length := by omega
    obtain ⟨a, b, c, d, e, hab⟩ := five (hn.stops _ (List.getElem_mem hlt)).1
    have x0 : w.cell? ⟨g, k * 5, none⟩ = some (.int .i64 a) := by
      have h1 := hs.cellAt (k * 5 + 0) (by omega)
      rw [flat_ints (fun s hs => (hn.stops s hs).1) hlt (by omega) (z := a) (by rw [hab]; rfl)] at h1
      exact h1
    have HS : Hid ((sites r).getD (k + 1) 0 = a) := by show _ = _; simp [sites, hlt, hab]
    have hne : ((k : Int) + 1 == 0) = false := by rw [beq_eq_false_iff_ne]; omega
    clear hab hs has hsn hn
    go_enter Tryz.func163, Tryz.ntmps163
    go_wp2
    go_ret
    exact ⟨ret_int HS.out.symm, below1 _ _⟩

/- a square of the right size -/
set_option maxHeartbeats 1000000 in

theorem roads_eq {r : Rd} (h : RdOk r) : rdF (cellF r.roads) r.roads.length = roadsF r.roads := by
  funext i j
  rw [rdF_roads (fun s hs => by
    obtain ⟨a, b, c, rfl, hk⟩ := h.roads s hs
    have := roadOk_iff.1 hk
    exact ⟨a, b, c, rfl, by omega, by omega, by omega⟩) i j r.roads.length (Nat.le_refl _), List.take_length]
theorem rd_lens {r : Rd} (h : RdOk r) {N : Nat} (hN : r.nodes = N) : Lens N 10000 (roadsF r.roads) := roads_lens r.roads (by rw [← hN]; exact h.roads) _ (diag_lens _)
/- the table of the sites, as read -/
def siteD (r : Rd) (i j : Nat) : Int := wayF r (siteN r i) (siteN r j)

set_option maxRecDepth 100000 in
set_option maxHeartbeats 2000000 in
theorem rways_any (B B' : Nat) (r : Rd) (vs vr : Value) (w : World) (hok : RdOk r) (hs : w.ownsRow B 62 5 vs r.stops.length (ints r.stops.flatten)) (hr : w.ownsRow B' 64 3 vr r.roads.length (ints r.roads.flatten)) :
    Calls Tryz.prog 101 #[inst r vs vr] w fun e w' => ∃ v us, e = .returned v ∧ us.length = r.stops.length + 1 ∧ GridR w' w.heap.size w'.heap.size v (r.stops.length + 1) (siteD r) us ∧ Below w.heap.size w w' := by
  obtain ⟨i0, hi, hz0, hz1, hz2⟩ := info_parts Tryz.infoInt
  obtain ⟨j0, hj, hy0, hy1, hy2⟩ := info_parts Tryz.infoInts
  have hns := hok.nstops
  have hnr := hok.nroads
  have hhd := headOk_iff.1 hok.head
  obtain ⟨N, hN⟩ : ∃ N : Nat, r.nodes = N := ⟨r.nodes.toNat, by omega⟩
  have hN12 : N ≤ 12 := by omega
  have hN1 : 1 ≤ N := by omega
  have HSP : Hid (∀ W i, Below w.heap.size w W → i < r.stops.length + 1 → Calls Tryz.prog 163 #[inst r vs vr, .int .i64 i] W fun e w' => e = .returned (.int .i64 (siteN r i)) ∧ Below W.heap.size W w') := fun W i hW hi => by
    have h1 := rspot_any B i r vs vr W hok.nice hi (own_below hs hW)
    have h2 : (sites r).getD i 0 = (siteN r i : Int) := by
      unfold siteN
      have hl : i < (sites r).length := by rw [sites_length]; exact hi
      have := sites_ok hok _ (List.getElem_mem hl)
      rw [show (sites r).getD i 0 = (sites r)[i] by simp [hl]]; omega
    rw [h2] at h1; exact h1
  have HSN : Hid (∀ i, i < r.stops.length + 1 → siteN r i < N) := fun i hi => siteN_lt hok hN hi
  have HLN := hid (rd_lens hok hN)
  obtain ⟨aor, capr, hvr, hlr⟩ := lies_own hr hok.shape.roads
  obtain ⟨aos, caps, hvs, _, _⟩ := own_val hs
  subst hvr hvs
  have HRD : Hid (∀ W, Below w.heap.size w W → Calls Tryz.prog 161 #[.agg #[.int .i64 r.vans, .int .i64 r.load, .int .i64 r.close, .int .i64 N, .int .i64 r.home, .slice aos r.stops.length caps, .slice aor r.roads.length capr]] W fun e w' => ∃ v us, e = .returned v ∧ us.length = N ∧ GridR w' W.heap.size w'.heap.size v N (roadsF r.roads) us ∧ Below W.heap.size W w') := fun W hW => by
    have h1 := rroads_any r.vans r.load r.close r.home N (cellF r.roads) (.slice aos r.stops.length caps) aor r.roads.length capr W hN12 hnr (hlr.below hW) ⟨_, _, _, rfl⟩
    rw [roads_eq hok] at h1; exact h1
  have HWF : Hid (siteD r = fun i j => fwF (roadsF r.roads) N (siteN r i) (siteN r j)) := by
    show _ = _; funext i j; unfold siteD wayF; rw [show r.nodes.toNat = N by omega]
  generalize siteD r = SD at *
  clear hs hr hlr hok hhd
  unfold inst at *
  rw [hN] at *
  go_enter Tryz.func101, Tryz.ntmps101
  go_wp2_with fail
  refine (HRD.out _ (below1 w _)).mono ?_
  rintro e1 w1 ⟨v1, us1, rfl, hul, hg1, hb1⟩
  have HX1 : Hid (w1.heap[w.heap.size]? = some (.cells #[.int .i64 r.vans, .int .i64 r.load, .int .i64 r.close, .int .i64 N, .int .i64 r.home, .slice aos r.stops.length caps, .slice aor r.roads.length capr] 28 (0, 0))) := by
    show _ = _; rw [hb1.block _ (by simp)]; exact heap_alloc_new w _
  have HG1 := hid (hg1.base (show w.heap.size ≤ _ by simp))
  have HB1 : Hid (Below w.heap.size w w1) := (below1 w _).trans (hb1.mono (by simp))
  have hx1 : w.heap.size < w1.heap.size := (Array.getElem?_eq_some_iff.1 HX1.out).1
  obtain ⟨av1, cv1, hv1, _, _⟩ := own_val HG1.out.own
  rw [hul] at hv1
  subst hv1
  have HUL := hid hul
  clear hg1 hb1 HRD hul
  go_wp2_with fail
  go_loopw [3, 4] (fun wv i wr => ∃ (p : Nat) (us : List Value), i = .int .i64 p ∧ p ≤ N ∧ us.length = N ∧ Hid (GridR wr w.heap.size wr.heap.size wv N (fwF (roadsF r.roads) p) us) ∧ Hid (Below w1.heap.size w1 wr)) (fun _ i _ => N - (intOf i).toNat)
  case atStart => exact ⟨0, us1, rfl, by omega, HUL.out, HG1, Below.refl _ _⟩
  case round =>
    obtain ⟨p, us, rfl, hp, hul, HG, HB⟩ := hrel
    have hbs := HB.out.size
    have hxb := (HB.out.block _ hx1).trans HX1.out
    obtain ⟨avw, cvw, hwv, _, _⟩ := own_val HG.out.own
    rw [hul] at hwv
    subst hwv
    have HUS := hid hul
    clear hul
    obtain ⟨x0, x1, x2, x3, x4, x5, x6, _⟩ := seven hxb
    by_cases hlt : p < N
    · have HOV := hid (over_any w.heap.size wr.heap.size N p (.slice avw N cvw) (fwF (roadsF r.roads) p) us wr hN12 hlt HUS.out (fun a b ha hb => (fw_lens12 HLN.out hN12 hp).2 a b ha hb) HG.out)
      clear x0 x1 x2 x4 x5 x6 hxb
      go_wp2_with fail
      refine HOV.out.mono ?_
      rintro e2 w2 ⟨v2, us2, rfl, hul2, hg2, hb2⟩
      have HG2 : Hid (GridR w2 w.heap.size w2.heap.size v2 N (fwF (roadsF r.roads) (p + 1)) us2) := hg2.base (by have := HB1.out.size; omega)
      have HB2 : Hid (Below w1.heap.size w1 w2) := HB.out.trans (hb2.mono hbs)
      obtain ⟨_, _, hv2, _, _⟩ := own_val hg2.own
      rw [hul2] at hv2
      subst hv2
      clear hg2 hb2 HOV HG HB
      go_wp2
      go_roundw
      case rel => exact ⟨p + 1, us2, by go_num, by omega, hul2, HG2, HB2⟩
      case measure => simp [intOf]; omega
    · have HGN : Hid (GridR wr w.heap.size wr.heap.size (.slice avw N cvw) N (fwF (roadsF r.roads) N) us) := by
        have hpn : p = N := by omega
        have h := HG.out
        rw [hpn] at h; exact h
      obtain ⟨wa, hwa⟩ : ∃ wa, wa = wr := ⟨_, rfl⟩
      have HGA : Hid (GridR wa w.heap.size wa.heap.size (.slice avw N cvw) N (fwF (roadsF r.roads) N) us) := by show GridR _ _ _ _ _ _ _; rw [hwa]; exact HGN.out
      have HXA : Hid (wa.heap[w.heap.size]? = some (.cells #[.int .i64 r.vans, .int .i64 r.load, .int .i64 r.close, .int .i64 N, .int .i64 r.home, .slice aos r.stops.length caps, .slice aor r.roads.length capr] 28 (0, 0))) := by show _ = _; rw [hwa]; exact hxb
      have HBA : Hid (Below w.heap.size w wa) := by show Below _ _ _; rw [hwa]; exact HB1.out.trans (HB.out.mono HB1.out.size)
      have hxa : w.heap.size < wa.heap.size := by rw [hwa]; omega
      go_wp2_with fail
      rw [← hwa]
      clear hwa HG HB HGN hbs hxb x0 x1 x2 x3 x4 x5 x6 HX1 HG1 HB1 hx1
      generalize hns' : r.stops.length + 1 = n at *
      go_loopw [5, 6] (fun ov i wr => ∃ (k : Nat) (os : List Value), i = .int .i64 k ∧ k ≤ n ∧ os.length = k ∧ Hid (GridR wr wa.heap.size wr.heap.size ov n SD os) ∧ Hid (Below wa.heap.size wa wr)) (fun _ i _ => n - (intOf i).toNat)
      case atStart => exact ⟨0, [], rfl, by omega, rfl, GridR.nil _ _ _ _ _, Below.refl _ _⟩
      case round =>
        obtain ⟨k, os, rfl, hk, hol, HG, HB⟩ := hrel
        have hbs := HB.out.size
        have hxb := (HB.out.block _ hxa).trans HXA.out
        obtain ⟨x0, x1, x2, x3, x4, x5, x6, _⟩ := seven hxb
        obtain ⟨avo, cvo, hov, _, _⟩ := own_val HG.out.own
        rw [hol] at hov
        subst hov
        have hxl : w.heap.size < wr.heap.size := by omega
        by_cases hlt2 : k < n
        · have HSC := hid (HSP.out wr k (HBA.out.trans (HB.out.mono (by omega))) hlt2)
          have hkk : (k : Int) ≤ (r.stops.length : Int) := by omega
          go_wp2_with fail
          refine HSC.out.mono ?_
          rintro e3 w3 ⟨rfl, hb3⟩
          have hb03 : Below wa.heap.size wa w3 := HB.out.trans (hb3.mono hbs)
          have HG3 := hid (HG.out.below hb3 hb3.size)
          have HB3 := hid hb03
          have hs3 : wa.heap.size ≤ w3.heap.size := hb03.size
          have hsk := HSN.out k hlt2
          clear hb3 hb03 HSC HG HB hbs hxb x0 x1 x2 x3 x4 x5 x6 hxl
          go_wp2_with fail
          go_loopw [7, 9] (fun l j wr => ∃ q : Nat, j = .int .i64 q ∧ q ≤ n ∧ Hid (wr.ownsRow w3.heap.size 3 1 l q (ints ((List.range q).map (SD k)))) ∧ Hid (GridR wr wa.heap.size w3.heap.size (.slice avo k cvo) n SD os) ∧ Hid (Below w3.heap.size w3 wr)) (fun _ j _ => n - (intOf j).toNat)
          case atStart => exact ⟨0, rfl, by omega, World.ownsRow_nil _ _ _ _, HG3, Below.refl _ _⟩
          case round =>
            obtain ⟨q, rfl, hq, HL, HG, HB⟩ := hrel
            have hbs := HB.out.size
            have hba : Below wa.heap.size wa wr := HB3.out.trans (HB.out.mono hs3)
            have hxb := (hba.block _ hxa).trans HXA.out
            obtain ⟨x0, x1, x2, x3, x4, x5, x6, _⟩ := seven hxb
            have hxl : w.heap.size < wr.heap.size := by omega
            obtain ⟨avl, cvl, hlv, _, _⟩ := own_val HL.out
            subst hlv
            have HBA2 := hid hba
            clear hba hxb
            by_cases hlq : q < n
            · have HSC := hid (HSP.out wr q (HBA.out.trans (HBA2.out.mono (by omega))) hlq)
              have hqk : (q : Int) ≤ (r.stops.length : Int) := by omega
              have hsq := HSN.out q hlq
              go_wp2_with fail
              refine HSC.out.mono ?_
              rintro e4 w4 ⟨rfl, hb4⟩
              have hba4 : Below wa.heap.size wa w4 := HBA2.out.trans (hb4.mono HBA2.out.size)
              have hsrc := HGA.out.below hba4 (Nat.le_refl _)
              obtain ⟨g, c, gp, cp, e1, hg, y1, hgp, z1⟩ := hsrc.at (i := siteN r k) (by rw [HUS.out]; exact hsk)
              rw [HUS.out] at e1
              cases e1
              have y2 := z1 (siteN r q) hsq
              have HV : Hid (SD k q = fwF (roadsF r.roads) N (siteN r k) (siteN r q)) := by show _ = _; rw [HWF.out]
              have HL4 := hid (own_below HL.out hb4)
              have HG4 := hid (HG.out.below hb4 (Nat.le_refl _))
              have HB4 : Hid (Below w3.heap.size w3 w4) := HB.out.trans (hb4.mono hbs)
              have hb4s : w3.heap.size ≤ w4.heap.size := HB4.out.size
              clear z1 hsrc hba4 hb4 HSC x0 x1 x2 x3 x4 x5 x6 HL HG HB HBA2 hxl
              generalize fwF (roadsF r.roads) N (siteN r k) (siteN r q) = VV at *
              go_wp2_with (at_builtin; refine wpList_append_own _ rfl _ _ 40 rfl w3.heap.size 3 i0 (.int .i64 0) 1 8 Tryz.underlying40 hi hz0 hz1 hz2 rfl (by decide) _ _ _ rfl (HL4.out.alloc _) ⟨w4.heap.size, 0, none⟩ 1 1 [.int .i64 VV] rfl rfl ?c1 ?c2 ?c3 ?c4 ?c5 ?_)
              case c1 => exact news_at rfl rfl
              case c2 => intro u hu; simp at hu; subst hu; rfl
              case c3 => unfold maxLen; omega
              case c4 => omega
              case c5 => simp; omega
              intro v' w6 hown6 hgr6 _
              have HL2 : Hid (w6.ownsRow w3.heap.size 3 1 v' (q + 1) (ints ((List.range (q + 1)).map (SD k)))) := by
                show World.ownsRow _ _ _ _ _ _ _
                have e : ints ((List.range (q + 1)).map (SD k)) = ints ((List.range q).map (SD k)) ++ [.int .i64 VV] := by rw [← HV.out]; simp [ints, List.range_succ]
                rw [e]; exact hown6
              have hgg : (w4.alloc (.cells #[.int .i64 VV] 3)).grownBy w6 (Value.slice avl q cvl).ownBlock := hgr6
              have HG5 : Hid (GridR w6 wa.heap.size w3.heap.size (.slice avo k cvo) n SD os) := (HG4.out.below (below1 w4 _) (Nat.le_refl _)).grown (own_below HL4.out (below1 w4 _)) (Nat.le_refl _) hgg
              have HB5 : Hid (Below w3.heap.size w3 w6) := (HB4.out.trans ((below1 w4 _).mono HB4.out.size)).grown hgg (by simp; omega) (fun x hx => (HL4.out.lt x hx).1)
              obtain ⟨_, _, hv6, _, _⟩ := own_val HL2.out
              subst hv6
              clear hown6 hgr6 hgg y1 y2 HL4 HG4 HB4
              go_wp2
              go_roundw
              case rel => exact ⟨q + 1, by go_num, by omega, HL2, HG5, HB5⟩
              case measure => simp [intOf]; omega
            · have hqn : q = n := by omega
              have HL' : Hid (wr.ownsRow w3.heap.size 3 1 (.slice avl q cvl) n (ints ((List.range n).map (SD k)))) := by
                have h := HL.out; rw [hqn] at h ⊢; exact h
              clear hqn
              go_wp2_with (at_builtin; refine wpList_append_own _ rfl _ _ 31 rfl wa.heap.size 40 j0 (.slice none 0 0) 1 24 Tryz.underlying31 hj hy0 hy1 hy2 rfl (by decide) _ _ _ rfl ((HG.out.own).alloc _) ⟨wr.heap.size, 0, none⟩ 1 1 [.slice avl q cvl] rfl rfl ?c1 ?c2 ?c3 ?c4 ?c5 ?_)
              case c1 => exact news_at rfl rfl
              case c2 => intro u hu; simp at hu; subst hu; rfl
              case c3 => unfold maxLen; omega
              case c4 => omega
              case c5 => simp; omega
              intro v7 w7 hown7 hgr7 _
              have hgg : (wr.alloc (.cells #[.slice avl q cvl] 40)).grownBy w7 (Value.slice avo k cvo).ownBlock := hgr7
              have HG7 : Hid (GridR w7 wa.heap.size w7.heap.size v7 n SD (os ++ [.slice avl q cvl])) := HG.out.push HL'.out (by omega) (by omega) (below1 wr _) hgg (by rw [hol]; exact hown7) (fun j hj => by rw [hol]; simp [ints, hj])
              have HB7 : Hid (Below wa.heap.size wa w7) := ((HB3.out.trans (HB.out.mono hs3)).trans ((below1 wr _).mono (by omega))).grown hgg (by simp; omega) (fun x hx => (HG.out.own.lt x (by rw [hx])).1)
              obtain ⟨_, _, hv7, _, _⟩ := own_val hown7
              subst hv7
              clear hown7 hgr7 hgg HL HG HB HL' x0 x1 x2 x3 x4 x5 x6
              go_wp2
              go_roundw
              case rel => exact ⟨k + 1, _, by go_num, by omega, by simp [hol], HG7, HB7⟩
              case measure => simp [intOf]; omega
        · go_wp2
          go_ret
          have hkn : k = r.stops.length + 1 := by omega
          refine ⟨_, os, rfl, by omega, ?_, HBA.out.trans (HB.out.mono (by omega))⟩
          rw [hns']; exact HG.out.base (by omega)
end Go.Proofs.YtebinaopncclgabGreatDoor
namespace Go.Proofs.YtebinaopncclgabGreatDoor
open Go.RowKit Go.IntWalk

/- a square that is read: n rows of n -/
def SqR (w : World) (v : Value) (n : Nat) (D : Nat → Nat → Int) : Prop :=
  ∃ ao c, v = .slice ao n c ∧ n ≤ 100 ∧ ∀ i, i < n → ∃ g gi ci, ao = some ⟨g, 0, none⟩ ∧ g < w.heap.size ∧ w.cell? ⟨g, i, none⟩ = some (.slice (some ⟨gi, 0, none⟩) n ci) ∧ gi < w.heap.size ∧ ∀ j, j < n → w.cell? ⟨gi, j, none⟩ = some (.int .i64 (D i j))
theorem SqR.below {w w' : World} {v : Value} {n : Nat} {D : Nat → Nat → Int} (h : SqR w v n D) (hb : Below w.heap.size w w') : SqR w' v n D := by
  obtain ⟨ao, c, h1, h2, h3⟩ := h
  refine ⟨ao, c, h1, h2, fun i hi => ?_⟩
  obtain ⟨g, gi, ci, k1, k2, k3, k4, k5⟩ := h3 i hi
  exact ⟨g, gi, ci, k1, Nat.lt_of_lt_of_le k2 hb.size, (hb.cell (by exact k2)).trans k3, Nat.lt_of_lt_of_le k4 hb.size, fun j hj => (hb.cell (by exact k4)).trans (k5 j hj)⟩
theorem GridO.sq {w : World} {B : Nat} {v : Value} {n : Nat} {D : Nat → Nat → Int} (h : GridO w B v n D) (hn : n ≤ 100) : SqR w v n D := by
  obtain ⟨g, rfl, hg, hr⟩ := h.grid
  refine ⟨_, _, rfl, hn, fun i hi => ?_⟩
  obtain ⟨gi, h1, h2, h3⟩ := hr i hi
  exact ⟨g, gi, n, rfl, hg.2, h1, h2.2, h3⟩
theorem GridR.sq {w : World} {B U n : Nat} {v : Value} {D : Nat → Nat → Int} {vs : List Value} (h : GridR w B U v n D vs) (hl : vs.length = n) (hn : n ≤ 100) : SqR w v n D := by
  obtain ⟨ao, c, hv, _, _⟩ := own_val h.own
  rw [hl] at hv
  refine ⟨ao, c, hv, hn, fun i hi => ?_⟩
  obtain ⟨g, c', gi, ci, e, h1, h2, h3, h4⟩ := h.at (i := i) (by omega)
  rw [hl, hv] at e
  cases e
  exact ⟨g, gi, ci, rfl, h1, h2, h3, h4⟩
theorem SqR.nil (w : World) (D : Nat → Nat → Int) : SqR w (.slice none 0 0) 0 D := ⟨none, 0, rfl, by omega, fun i hi => absurd hi (by omega)⟩

end Go.Proofs.YtebinaopncclgabGreatDoor
