/- Walks of the document's answer: the ways of an instance. -/
import Derived.Test.YtebinaopncclgaaGreatDoorBetw
namespace Go.Proofs.YtebinaopncclgaaGreatDoor
open Go.RowKit Go.IntWalk

set_option maxHeartbeats 400000 in
theorem least_any (a b : Int) (w : World) :
    Calls Tryz.prog 140 #[.int .i64 a, .int .i64 b] w fun e w' => e = .returned (.int .i64 (shorterS a b)) ∧ w' = w := by
  by_cases h1 : a = -1
  · go_enter Tryz.func140, Tryz.ntmps140
    go_wp2
    go_ret
    exact ⟨ret_int (by unfold shorterS; rw [if_pos (Or.inl h1)]), rfl⟩
  · by_cases h2 : b = -1
    · have e1 : (a == -1) = false := by simp [h1]
      go_enter Tryz.func140, Tryz.ntmps140
      go_wp2
      go_ret
      exact ⟨ret_int (by unfold shorterS; rw [if_neg (by omega)]), rfl⟩
    · have e1 : (a == -1) = false := by simp [h1]
      have e2 : (b != -1) = true := by simp [h2]
      by_cases h3 : b < a
      · go_enter Tryz.func140, Tryz.ntmps140
        go_wp2
        go_ret
        exact ⟨ret_int (by unfold shorterS; rw [if_pos (by omega)]), rfl⟩
      · go_enter Tryz.func140, Tryz.ntmps140
        go_wp2
        go_ret
        exact ⟨ret_int (by unfold shorterS; rw [if_neg (by omega)]), rfl⟩
theorem shorter_short {a b : Int} (h : b ≠ -1) : shorterS a b = shortS a b := by
  unfold shorterS shortS
  by_cases h1 : a = -1 ∨ b < a
  · rw [if_pos h1, if_pos (by omega)]
  · rw [if_neg h1, if_neg (by omega)]

/- the ways by one road or none -/
def rdF (T : Nat → Nat → Int) (m : Nat) (i j : Nat) : Int := (List.range m).foldl (fun v k => if T k 0 = (i : Int) ∧ T k 1 = (j : Int) then shorterS v (T k 2) else v) (diagS i j)
theorem rdF_succ (T : Nat → Nat → Int) (m i j : Nat) : rdF T (m + 1) i j = if T m 0 = (i : Int) ∧ T m 1 = (j : Int) then shorterS (rdF T m i j) (T m 2) else rdF T m i j := by
  simp [rdF, List.range_succ]
theorem rdF_roads {rs : List (List Int)} (h : ∀ s ∈ rs, ∃ a b c, s = [a, b, c] ∧ 0 ≤ a ∧ 0 ≤ b ∧ 0 ≤ c) (i j : Nat) : ∀ k, k ≤ rs.length → rdF (cellF rs) k i j = roadsF (rs.take k) i j := by
  intro k
  induction k with
  | zero => intro _; rfl
  | succ k ih =>
    intro hk
    obtain ⟨a, b, c, hs, ha, hb, hc⟩ := h _ (List.getElem_mem (show k < rs.length by omega))
    rw [rdF_succ, ih (by omega), roadsF_snoc (by omega), hs, cellF_at (by omega) hs, cellF_at (by omega) hs, cellF_at (by omega) hs]
    show (if a = (i : Int) ∧ b = (j : Int) then shorterS _ c else _) = upd _ a.toNat b.toNat (shortS _ c) i j
    unfold upd
    by_cases hij : a = (i : Int) ∧ b = (j : Int)
    · rw [if_pos hij, if_pos ⟨by omega, by omega⟩, shorter_short (by omega)]
      show _ = shortS (roadsF (List.take k rs) a.toNat b.toNat) c
      rw [show a.toNat = i by omega, show b.toNat = j by omega]
    · rw [if_neg hij, if_neg (by omega)]

/- a table that is made row by row, of n numbers each; the rows lie in the blocks from B up to U -/
structure GridR (w : World) (B U : Nat) (v : Value) (n : Nat) (D : Nat → Nat → Int) (vs : List Value) : Prop where
  own : w.ownsRow B 53 1 v vs.length vs
  row : ∀ i (h : i < vs.length), ∃ gi ci cur, vs[i] = .slice (some ⟨gi, 0, none⟩) n ci ∧ (B ≤ gi ∧ gi < U) ∧ w.heap[gi]? = some (.cells cur 3 (0, 0)) ∧ ∀ j, j < n → cur[j]? = some (.int .i64 (D i j))
theorem GridR.nil (w : World) (B U n : Nat) (D : Nat → Nat → Int) : GridR w B U (.slice none 0 0) n D [] := ⟨World.ownsRow_nil _ _ _ _, fun i h => absurd h (by simp)⟩
theorem GridR.below {w w' : World} {B U U' n : Nat} {v : Value} {D : Nat → Nat → Int} {vs : List Value} (h : GridR w B U v n D vs) (hb : Below w.heap.size w w') (hU : U ≤ U') : GridR w' B U' v n D vs :=
  ⟨own_below h.own hb, fun i hi => by
    obtain ⟨gi, ci, cur, k1, k2, k3, k4⟩ := h.row i hi
    exact ⟨gi, ci, cur, k1, by omega, by rw [hb.block _ (Array.getElem?_eq_some_iff.1 k3).1]; exact k3, k4⟩⟩
theorem GridR.base {w : World} {B B' U n : Nat} {v : Value} {D : Nat → Nat → Int} {vs : List Value} (h : GridR w B U v n D vs) (hb : B' ≤ B) : GridR w B' U v n D vs :=
  ⟨own_base h.own hb, fun i hi => by
    obtain ⟨gi, ci, cur, k1, k2, k3, k4⟩ := h.row i hi
    exact ⟨gi, ci, cur, k1, by omega, k3, k4⟩⟩
/- the numbers of a table, read -/
theorem GridR.at {w : World} {B U n : Nat} {v : Value} {D : Nat → Nat → Int} {vs : List Value} (h : GridR w B U v n D vs) {i : Nat} (hi : i < vs.length) : ∃ g c gi ci, v = .slice (some ⟨g, 0, none⟩) vs.length c ∧ g < w.heap.size ∧ w.cell? ⟨g, i, none⟩ = some (.slice (some ⟨gi, 0, none⟩) n ci) ∧ gi < w.heap.size ∧ ∀ j, j < n → w.cell? ⟨gi, j, none⟩ = some (.int .i64 (D i j)) := by
  obtain ⟨gi, ci, cur, k1, k2, k3, k4⟩ := h.row i hi
  obtain ⟨g, cap, e, hg, hc⟩ := own_at h.own hi hi
  exact ⟨g, cap, gi, ci, e, hg, by rw [hc, k1], (Array.getElem?_eq_some_iff.1 k3).1, fun j hj => by rw [cell_of_row _ _ _ _ _ _ k3]; exact k4 j hj⟩
/- a row more: it is made, with memory of its own -/
theorem GridR.grown {w w' : World} {B U n : Nat} {v l : Value} {D : Nat → Nat → Int} {vs : List Value} {Bl q : Nat} {zs : List Value} (h : GridR w B U v n D vs) (hl : w.ownsRow Bl 3 1 l q zs) (hB : U ≤ Bl) (hg : w.grownBy w' l.ownBlock) : GridR w' B U v n D vs :=
  ⟨h.own.kept hg (own_ne h.own hl (by decide)), fun i hi => by
    obtain ⟨gi, ci, cur, k1, k2, k3, k4⟩ := h.row i hi
    refine ⟨gi, ci, cur, k1, k2, ?_, k4⟩
    rw [hg.block _ (Array.getElem?_eq_some_iff.1 k3).1 (fun e => by have h5 := (hl.lt _ e.symm).1; omega)]; exact k3⟩
/- and appended -/
theorem GridR.push {w X w' : World} {B U n Bl : Nat} {v v' l : Value} {D : Nat → Nat → Int} {vs zs : List Value} (h : GridR w B U v n D vs) (hl : w.ownsRow Bl 3 1 l n zs) (hn : 0 < n) (hB : B ≤ Bl) (hX : Below w.heap.size w X) (hg : X.grownBy w' v.ownBlock) (ho : w'.ownsRow B 53 1 v' (vs.length + 1) (vs ++ [l]))
    (hz : ∀ j, j < n → zs[j]? = some (.int .i64 (D vs.length j))) : GridR w' B w'.heap.size v' n D (vs ++ [l]) := by
  have hk : Keep [53] w w' := (Keep.of_below hX).trans (Keep.grown (own_below h.own hX) (by simp) hg)
  refine ⟨by rw [List.length_append]; exact ho, fun i hi => ?_⟩
  by_cases hlt : i < vs.length
  · obtain ⟨gi, ci, cur, k1, k2, k3, k4⟩ := h.row i hlt
    have k5 := hk _ _ _ _ k3 (by decide)
    exact ⟨gi, ci, cur, by rw [List.getElem_append_left hlt]; exact k1, ⟨k2.1, (Array.getElem?_eq_some_iff.1 k5).1⟩, k5, k4⟩
  · have hi' : i = vs.length := by simp at hi; omega
    subst hi'
    rcases hl.2 with ⟨_, h0⟩ | ⟨g, cap, cur, rfl, hb, hgc, h1, h2, h3, h4⟩
    · omega
    · have k5 := hk _ _ _ _ hgc (by decide)
      refine ⟨g, cap, cur, by simp, ⟨by omega, (Array.getElem?_eq_some_iff.1 k5).1⟩, k5, fun j hj => ?_⟩
      have h6 := hz j hj
      rw [← h4, List.getElem?_take_of_lt (by omega)] at h6
      simpa using h6

set_option maxRecDepth 100000 in
set_option maxHeartbeats 2000000 in
theorem rroads_any (X0 X1 X2 X4 : Int) (N : Nat) (T : Nat → Nat → Int) (vs0 : Value) (aor : Option Addr) (m capr : Nat) (w : World) (hN : N ≤ 12) (hm : m ≤ 40) (hr : Lies w aor m 3 T) (hvs : ∃ a n c, vs0 = .slice a n c) :
    Calls Tryz.prog 119 #[.agg #[.int .i64 X0, .int .i64 X1, .int .i64 X2, .int .i64 N, .int .i64 X4, vs0, .slice aor m capr]] w fun e w' => ∃ v vs, e = .returned v ∧ vs.length = N ∧ GridR w' w.heap.size w'.heap.size v N (rdF T m) vs ∧ Below w.heap.size w w' := by
  obtain ⟨i0, hi, hz0, hz1, hz2⟩ := info_parts Tryz.infoInt
  obtain ⟨j0, hj, hy0, hy1, hy2⟩ := info_parts Tryz.infoInts
  obtain ⟨a0, n0, c0, rfl⟩ := hvs
  have HR := hid hr
  clear hr
  go_enter Tryz.func119, Tryz.ntmps119
  go_wp2_with fail
  obtain ⟨W, hW⟩ : ∃ W, W = w.alloc (.cells #[.int .i64 X0, .int .i64 X1, .int .i64 X2, .int .i64 N, .int .i64 X4, .slice a0 n0 c0, .slice aor m capr] 36) := ⟨_, rfl⟩
  have HWX : Hid (W.heap[w.heap.size]? = some (.cells #[.int .i64 X0, .int .i64 X1, .int .i64 X2, .int .i64 N, .int .i64 X4, .slice a0 n0 c0, .slice aor m capr] 36 (0, 0))) := by show _ = _; rw [hW]; exact heap_alloc_new w _
  have HWB : Hid (Below w.heap.size w W) := by show Below _ _ _; rw [hW]; exact below1 w _
  have hWs : W.heap.size = w.heap.size + 1 := by rw [hW]; simp
  rw [← hW]
  clear hW
  go_loopw [3, 4] (fun ov i wr => ∃ (k : Nat) (vs : List Value), i = .int .i64 k ∧ k ≤ N ∧ vs.length = k ∧ Hid (GridR wr W.heap.size wr.heap.size ov N (rdF T m) vs) ∧ Hid (Below W.heap.size W wr)) (fun _ i _ => N - (intOf i).toNat)
  case atStart => exact ⟨0, [], rfl, by omega, rfl, GridR.nil _ _ _ _ _, Below.refl _ _⟩
  case round =>
    obtain ⟨k, vs, rfl, hk, hvl, HG, HB⟩ := hrel
    have hbs := HB.out.size
    have hxb := (HB.out.block _ (by omega : w.heap.size < W.heap.size)).trans HWX.out
    have d3 : wr.cell? ⟨w.heap.size, 3, none⟩ = some (.int .i64 N) := by rw [cell_of_row _ _ _ _ _ _ hxb]; rfl
    have hxl : w.heap.size < wr.heap.size := by omega
    obtain ⟨avo, cvo, hov, _, _⟩ := own_val HG.out.own
    rw [hvl] at hov
    subst hov
    clear hxb
    by_cases hlt : k < N
    · obtain ⟨wo, hwo⟩ : ∃ wo, wo = wr := ⟨_, rfl⟩
      have HG0 : Hid (GridR wo W.heap.size wo.heap.size (.slice avo k cvo) N (rdF T m) vs) := by show GridR _ _ _ _ _ _ _; rw [hwo]; exact HG.out
      have HB0 : Hid (Below W.heap.size W wo) := by show Below _ _ _; rw [hwo]; exact HB.out
      have hbs0 : W.heap.size ≤ wo.heap.size := HB0.out.size
      go_wp2_with fail
      rw [← hwo]
      clear hwo HG HB hbs d3 hxl
      go_loopw [5, 6] (fun l j wr => ∃ q : Nat, j = .int .i64 q ∧ q ≤ N ∧ Hid (wr.ownsRow wo.heap.size 3 1 l q (ints ((List.range q).map (rdF T m k)))) ∧ Hid (GridR wr W.heap.size wo.heap.size (.slice avo k cvo) N (rdF T m) vs) ∧ Hid (Below wo.heap.size wo wr)) (fun _ j _ => N - (intOf j).toNat)
      case atStart => exact ⟨0, rfl, by omega, World.ownsRow_nil _ _ _ _, HG0, Below.refl _ _⟩
      case round =>
        obtain ⟨q, rfl, hq, HL, HG, HB⟩ := hrel
        have hbs := HB.out.size
        have hxb := (HB.out.block _ (by omega : w.heap.size < wo.heap.size)).trans ((HB0.out.block _ (by omega : w.heap.size < W.heap.size)).trans HWX.out)
        have d3 : wr.cell? ⟨w.heap.size, 3, none⟩ = some (.int .i64 N) := by rw [cell_of_row _ _ _ _ _ _ hxb]; rfl
        have hxl : w.heap.size < wr.heap.size := by omega
        obtain ⟨avl, cvl, hlv, _, _⟩ := own_val HL.out
        subst hlv
        by_cases hlq : q < N
        · obtain ⟨wi, hwi⟩ : ∃ wi, wi = wr := ⟨_, rfl⟩
          have HXI : Hid (wi.heap[w.heap.size]? = some (.cells #[.int .i64 X0, .int .i64 X1, .int .i64 X2, .int .i64 N, .int .i64 X4, .slice a0 n0 c0, .slice aor m capr] 36 (0, 0))) := by show _ = _; rw [hwi]; exact hxb
          have HL0 : Hid (wi.ownsRow wo.heap.size 3 1 (.slice avl q cvl) q (ints ((List.range q).map (rdF T m k)))) := by show World.ownsRow _ _ _ _ _ _ _; rw [hwi]; exact HL.out
          have HG1 : Hid (GridR wi W.heap.size wo.heap.size (.slice avo k cvo) N (rdF T m) vs) := by show GridR _ _ _ _ _ _ _; rw [hwi]; exact HG.out
          have HB1 : Hid (Below wo.heap.size wo wi) := by show Below _ _ _; rw [hwi]; exact HB.out
          have hbi : wo.heap.size ≤ wi.heap.size := HB1.out.size
          have hwl : Lies wi aor m 3 T := HR.out.below (HWB.out.trans ((HB0.out.mono (by omega)).trans (HB1.out.mono (by omega))))
          have HWL := hid hwl
          clear hxb hwl
          by_cases hkq : (k : Int) = (q : Int)
          · have HD : Hid (rdF T 0 k q = 0) := by show diagS k q = 0; unfold diagS; rw [if_pos (by omega)]
            go_wp2_with fail
            rw [← hwi]
            clear hwi HL HG HB hbs d3 hxl hkq
            go_loopw [7, 8] (fun v i wr => ∃ p : Nat, i = .int .i64 p ∧ v = .int .i64 (rdF T p k q) ∧ p ≤ m ∧ Hid (Below wi.heap.size wi wr)) (fun _ i _ => m - (intOf i).toNat)
            case atStart => exact ⟨0, rfl, by rw [HD.out], by omega, Below.refl _ _⟩
            case round =>
              obtain ⟨p, rfl, rfl, hp, HC⟩ := hrel
              have hcs := HC.out.size
              have hxb := (HC.out.block _ (by omega : w.heap.size < wi.heap.size)).trans HXI.out
              have d6 : wr.cell? ⟨w.heap.size, 6, none⟩ = some (.slice aor m capr) := by rw [cell_of_row _ _ _ _ _ _ hxb]; rfl
              have hxl2 : w.heap.size < wr.heap.size := by omega
              clear hxb
              by_cases hlp : p < m
              · obtain ⟨g, o, rfl, hgl, hc⟩ := HWL.out (by omega)
                have hcl : ∀ j, j < 3 → wr.cell? ⟨g, o + p * 3 + j, none⟩ = some (.int .i64 (T p j)) := fun j hj => (HC.out.cell (by exact hgl)).trans (hc p j hlp hj)
                have y0 : wr.cell? ⟨g, o + p * 3, none⟩ = some (.int .i64 (T p 0)) := hcl 0 (by omega)
                have y1 : wr.cell? ⟨g, o + p * 3 + 1, none⟩ = some (.int .i64 (T p 1)) := hcl 1 (by omega)
                have y2 : wr.cell? ⟨g, o + p * 3 + 2, none⟩ = some (.int .i64 (T p 2)) := hcl 2 (by omega)
                have hgr : g < wr.heap.size := by omega
                have HS := hid (rdF_succ T p k q)
                clear hcl hc
                generalize T p 0 = ra at *
                generalize T p 1 = rb at *
                generalize T p 2 = rc at *
                by_cases ha : ra = (k : Int)
                · by_cases hb : rb = (q : Int)
                  · have HV : Hid (rdF T (p + 1) k q = shorterS (rdF T p k q) rc) := by show _ = _; rw [HS.out, if_pos ⟨ha, hb⟩]
                    generalize rdF T p k q = vv at *
                    have e1 : (ra == (k : Int)) = true := by simp [ha]
                    have e2 : (rb == (q : Int)) = true := by simp [hb]
                    clear ha hb HS
                    go_wp2_with (go_at_call 140; refine (least_any _ _ _).mono ?_; rintro e5 w5 ⟨rfl, rfl⟩)
                    go_roundw
                    case rel => exact ⟨p + 1, by go_num, by rw [HV.out], by omega, by first | exact HC | exact HC.out.drew⟩
                    case measure => simp [intOf]; omega
                  · have HV : Hid (rdF T (p + 1) k q = rdF T p k q) := by show _ = _; rw [HS.out, if_neg (fun h => hb h.2)]
                    generalize rdF T p k q = vv at *
                    have e1 : (ra == (k : Int)) = true := by simp [ha]
                    have e2 : (rb == (q : Int)) = false := by simp [hb]
                    clear ha hb HS
                    go_wp2
                    go_roundw
                    case rel => exact ⟨p + 1, by go_num, by rw [HV.out], by omega, by first | exact HC | exact HC.out.drew⟩
                    case measure => simp [intOf]; omega
                · have HV : Hid (rdF T (p + 1) k q = rdF T p k q) := by show _ = _; rw [HS.out, if_neg (fun h => ha h.1)]
                  generalize rdF T p k q = vv at *
                  have e1 : (ra == (k : Int)) = false := by simp [ha]
                  clear ha HS
                  go_wp2
                  go_roundw
                  case rel => exact ⟨p + 1, by go_num, by rw [HV.out], by omega, by first | exact HC | exact HC.out.drew⟩
                  case measure => simp [intOf]; omega
              · have hpm : p = m := by omega
                have HL1 := hid (own_below HL0.out HC.out)
                have HG2 := hid (HG1.out.below HC.out (Nat.le_refl _))
                have HV : Hid (rdF T p k q = rdF T m k q) := by show _ = _; rw [hpm]
                have hbo : Below wo.heap.size wo wr := HB1.out.trans (HC.out.mono hbi)
                have HBO := hid hbo
                clear hpm hbo
                generalize rdF T p k q = vv at *
                go_wp2_with (at_builtin; refine wpList_append_own _ rfl _ _ 53 rfl wo.heap.size 3 i0 (.int .i64 0) 1 8 Tryz.underlying53 hi hz0 hz1 hz2 rfl (by decide) _ _ _ rfl (HL1.out.alloc _) ⟨wr.heap.size, 0, none⟩ 1 1 [.int .i64 vv] rfl rfl ?c1 ?c2 ?c3 ?c4 ?c5 ?_)
                case c1 => exact news_at rfl rfl
                case c2 => intro u hu; simp at hu; subst hu; rfl
                case c3 => unfold maxLen; omega
                case c4 => omega
                case c5 => simp; omega
                intro v' w6 hown6 hgr6 _
                have HL2 : Hid (w6.ownsRow wo.heap.size 3 1 v' (q + 1) (ints ((List.range (q + 1)).map (rdF T m k)))) := by
                  show World.ownsRow _ _ _ _ _ _ _
                  have e : ints ((List.range (q + 1)).map (rdF T m k)) = ints ((List.range q).map (rdF T m k)) ++ [.int .i64 vv] := by rw [HV.out]; simp [ints, List.range_succ]
                  rw [e]; exact hown6
                have hgg : (wr.alloc (.cells #[.int .i64 vv] 3)).grownBy w6 (Value.slice avl q cvl).ownBlock := hgr6
                have HG3 : Hid (GridR w6 W.heap.size wo.heap.size (.slice avo k cvo) N (rdF T m) vs) := (HG2.out.below (below1 wr _) (Nat.le_refl _)).grown (own_below HL1.out (below1 wr _)) (Nat.le_refl _) hgg
                have HB3 : Hid (Below wo.heap.size wo w6) := (HBO.out.trans ((below1 wr _).mono HBO.out.size)).grown hgg (by have := HBO.out.size; simp; omega) (fun x hx => (HL1.out.lt x hx).1)
                obtain ⟨_, _, hv6, _, _⟩ := own_val HL2.out
                subst hv6
                clear hown6 hgr6 hgg
                go_wp2
                go_roundw
                case rel => exact ⟨q + 1, by go_num, by omega, HL2, HG3, HB3⟩
                case measure => simp [intOf]; omega
          · have HD : Hid (rdF T 0 k q = -1) := by show diagS k q = -1; unfold diagS; rw [if_neg (by omega)]
            have hkb : ((k : Int) == (q : Int)) = false := by simp; omega
            go_wp2_with fail
            rw [← hwi]
            clear hwi HL HG HB hbs d3 hxl hkq hkb
            go_loopw [7, 8] (fun v i wr => ∃ p : Nat, i = .int .i64 p ∧ v = .int .i64 (rdF T p k q) ∧ p ≤ m ∧ Hid (Below wi.heap.size wi wr)) (fun _ i _ => m - (intOf i).toNat)
            case atStart => exact ⟨0, rfl, by rw [HD.out], by omega, Below.refl _ _⟩
            case round =>
              obtain ⟨p, rfl, rfl, hp, HC⟩ := hrel
              have hcs := HC.out.size
              have hxb := (HC.out.block _ (by omega : w.heap.size < wi.heap.size)).trans HXI.out
              have d6 : wr.cell? ⟨w.heap.size, 6, none⟩ = some (.slice aor m capr) := by rw [cell_of_row _ _ _ _ _ _ hxb]; rfl
              have hxl2 : w.heap.size < wr.heap.size := by omega
              clear hxb
              by_cases hlp : p < m
              · obtain ⟨g, o, rfl, hgl, hc⟩ := HWL.out (by omega)
                have hcl : ∀ j, j < 3 → wr.cell? ⟨g, o + p * 3 + j, none⟩ = some (.int .i64 (T p j)) := fun j hj => (HC.out.cell (by exact hgl)).trans (hc p j hlp hj)
                have y0 : wr.cell? ⟨g, o + p * 3, none⟩ = some (.int .i64 (T p 0)) := hcl 0 (by omega)
                have y1 : wr.cell? ⟨g, o + p * 3 + 1, none⟩ = some (.int .i64 (T p 1)) := hcl 1 (by omega)
                have y2 : wr.cell? ⟨g, o + p * 3 + 2, none⟩ = some (.int .i64 (T p 2)) := hcl 2 (by omega)
                have hgr : g < wr.heap.size := by omega
                have HS := hid (rdF_succ T p k q)
                clear hcl hc
                generalize T p 0 = ra at *
                generalize T p 1 = rb at *
                generalize T p 2 = rc at *
                by_cases ha : ra = (k : Int)
                · by_cases hb : rb = (q : Int)
                  · have HV : Hid (rdF T (p + 1) k q = shorterS (rdF T p k q) rc) := by show _ = _; rw [HS.out, if_pos ⟨ha, hb⟩]
                    generalize rdF T p k q = vv at *
                    have e1 : (ra == (k : Int)) = true := by simp [ha]
                    have e2 : (rb == (q : Int)) = true := by simp [hb]
                    clear ha hb HS
                    go_wp2_with (go_at_call 140; refine (least_any _ _ _).mono ?_; rintro e5 w5 ⟨rfl, rfl⟩)
                    go_roundw
                    case rel => exact ⟨p + 1, by go_num, by rw [HV.out], by omega, by first | exact HC | exact HC.out.drew⟩
                    case measure => simp [intOf]; omega
                  · have HV : Hid (rdF T (p + 1) k q = rdF T p k q) := by show _ = _; rw [HS.out, if_neg (fun h => hb h.2)]
                    generalize rdF T p k q = vv at *
                    have e1 : (ra == (k : Int)) = true := by simp [ha]
                    have e2 : (rb == (q : Int)) = false := by simp [hb]
                    clear ha hb HS
                    go_wp2
                    go_roundw
                    case rel => exact ⟨p + 1, by go_num, by rw [HV.out], by omega, by first | exact HC | exact HC.out.drew⟩
                    case measure => simp [intOf]; omega
                · have HV : Hid (rdF T (p + 1) k q = rdF T p k q) := by show _ = _; rw [HS.out, if_neg (fun h => ha h.1)]
                  generalize rdF T p k q = vv at *
                  have e1 : (ra == (k : Int)) = false := by simp [ha]
                  clear ha HS
                  go_wp2
                  go_roundw
                  case rel => exact ⟨p + 1, by go_num, by rw [HV.out], by omega, by first | exact HC | exact HC.out.drew⟩
                  case measure => simp [intOf]; omega
              · have hpm : p = m := by omega
                have HL1 := hid (own_below HL0.out HC.out)
                have HG2 := hid (HG1.out.below HC.out (Nat.le_refl _))
                have HV : Hid (rdF T p k q = rdF T m k q) := by show _ = _; rw [hpm]
                have hbo : Below wo.heap.size wo wr := HB1.out.trans (HC.out.mono hbi)
                have HBO := hid hbo
                clear hpm hbo
                generalize rdF T p k q = vv at *
                go_wp2_with (at_builtin; refine wpList_append_own _ rfl _ _ 53 rfl wo.heap.size 3 i0 (.int .i64 0) 1 8 Tryz.underlying53 hi hz0 hz1 hz2 rfl (by decide) _ _ _ rfl (HL1.out.alloc _) ⟨wr.heap.size, 0, none⟩ 1 1 [.int .i64 vv] rfl rfl ?c1 ?c2 ?c3 ?c4 ?c5 ?_)
                case c1 => exact news_at rfl rfl
                case c2 => intro u hu; simp at hu; subst hu; rfl
                case c3 => unfold maxLen; omega
                case c4 => omega
                case c5 => simp; omega
                intro v' w6 hown6 hgr6 _
                have HL2 : Hid (w6.ownsRow wo.heap.size 3 1 v' (q + 1) (ints ((List.range (q + 1)).map (rdF T m k)))) := by
                  show World.ownsRow _ _ _ _ _ _ _
                  have e : ints ((List.range (q + 1)).map (rdF T m k)) = ints ((List.range q).map (rdF T m k)) ++ [.int .i64 vv] := by rw [HV.out]; simp [ints, List.range_succ]
                  rw [e]; exact hown6
                have hgg : (wr.alloc (.cells #[.int .i64 vv] 3)).grownBy w6 (Value.slice avl q cvl).ownBlock := hgr6
                have HG3 : Hid (GridR w6 W.heap.size wo.heap.size (.slice avo k cvo) N (rdF T m) vs) := (HG2.out.below (below1 wr _) (Nat.le_refl _)).grown (own_below HL1.out (below1 wr _)) (Nat.le_refl _) hgg
                have HB3 : Hid (Below wo.heap.size wo w6) := (HBO.out.trans ((below1 wr _).mono HBO.out.size)).grown hgg (by have := HBO.out.size; simp; omega) (fun x hx => (HL1.out.lt x hx).1)
                obtain ⟨_, _, hv6, _, _⟩ := own_val HL2.out
                subst hv6
                clear hown6 hgr6 hgg
                go_wp2
                go_roundw
                case rel => exact ⟨q + 1, by go_num, by omega, HL2, HG3, HB3⟩
                case measure => simp [intOf]; omega
        · have hqn : q = N := by omega
          subst hqn
          go_wp2_with (at_builtin; refine wpList_append_own _ rfl _ _ 26 rfl W.heap.size 53 j0 (.slice none 0 0) 1 24 Tryz.underlying26 hj hy0 hy1 hy2 rfl (by decide) _ _ _ rfl ((HG.out.own).alloc _) ⟨wr.heap.size, 0, none⟩ 1 1 [.slice avl q cvl] rfl rfl ?c1 ?c2 ?c3 ?c4 ?c5 ?_)
          case c1 => exact news_at rfl rfl
          case c2 => intro u hu; simp at hu; subst hu; rfl
          case c3 => unfold maxLen; omega
          case c4 => omega
          case c5 => simp; omega
          intro v7 w7 hown7 hgr7 _
          have hgg : (wr.alloc (.cells #[.slice avl q cvl] 53)).grownBy w7 (Value.slice avo k cvo).ownBlock := hgr7
          have HG7 : Hid (GridR w7 W.heap.size w7.heap.size v7 q (rdF T m) (vs ++ [.slice avl q cvl])) := HG.out.push HL.out (by omega) (by omega) (below1 wr _) hgg (by rw [hvl, hWs]; exact hown7) (fun j hj => by rw [hvl]; simp [ints, hj])
          have HB7 : Hid (Below W.heap.size W w7) := ((HB0.out.trans (HB.out.mono hbs0)).trans ((below1 wr _).mono (by omega))).grown hgg (by simp; omega) (fun x hx => (HG.out.own.lt x (by rw [hx])).1)
          obtain ⟨_, _, hv7, _, _⟩ := own_val hown7
          subst hv7
          clear hown7 hgr7 hgg HL HG HB hxb d3
          go_wp2
          go_roundw
          case rel => exact ⟨k + 1, _, by go_num, by omega, by simp [hvl], HG7, HB7⟩
          case measure => simp [intOf]; omega
    · go_wp2
      go_ret
      have hkn : k = N := by omega
      exact ⟨_, vs, rfl, by omega, (HG.out.base (by omega)), HWB.out.trans (HB.out.mono (by omega))⟩
end Go.Proofs.YtebinaopncclgaaGreatDoor
