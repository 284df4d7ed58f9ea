/- Tables that are made row by row: for the seat without the document's answer. -/
import Derived.Test.YtebinaopncclgaaSqP
import Derived.Test.YtebinaopncclgaaABest
namespace Go.Proofs.Ytebinaopncclgaa
open Go.RowKit Go.IntWalk

/- a table that is made row by row, of n numbers each; the rows lie in the blocks from B up to U -/
structure GridR (w : World) (B U : Nat) (v : Value) (n : Nat) (D : Nat → Nat → Int) (vs : List Value) : Prop where
  own : w.ownsRow B 37 1 v vs.length vs
  row : ∀ i (h : i < vs.length), ∃ gi ci cur, vs[i] = .slice (some ⟨gi, 0, none⟩) n ci ∧ (B ≤ gi ∧ gi < U) ∧ w.heap[gi]? = some (.cells cur 3 (0, 0)) ∧ ∀ j, j < n → cur[j]? = some (.int .i64 (D i j))
theorem GridR.nil (w : World) (B U n : Nat) (D : Nat → Nat → Int) : GridR w B U (.slice none 0 0) n D [] := ⟨World.ownsRow_nil _ _ _ _, fun i h => absurd h (by simp)⟩
theorem GridR.below {w w' : World} {B U U' n : Nat} {v : Value} {D : Nat → Nat → Int} {vs : List Value} (h : GridR w B U v n D vs) (hb : Below w.heap.size w w') (hU : U ≤ U') : GridR w' B U' v n D vs :=
  ⟨own_below h.own hb, fun i hi => by
    obtain ⟨gi, ci, cur, k1, k2, k3, k4⟩ := h.row i hi
    exact ⟨gi, ci, cur, k1, by omega, by rw [hb.block _ (Array.getElem?_eq_some_iff.1 k3).1]; exact k3, k4⟩⟩
theorem GridR.base {w : World} {B B' U n : Nat} {v : Value} {D : Nat → Nat → Int} {vs : List Value} (h : GridR w B U v n D vs) (hb : B' ≤ B) : GridR w B' U v n D vs :=
  ⟨own_base h.own hb, fun i hi => by
    obtain ⟨gi, ci, cur, k1, k2, k3, k4⟩ := h.row i hi
    exact ⟨gi, ci, cur, k1, by omega, k3, k4⟩⟩
/- the numbers of a table, read -/
theorem GridR.at {w : World} {B U n : Nat} {v : Value} {D : Nat → Nat → Int} {vs : List Value} (h : GridR w B U v n D vs) {i : Nat} (hi : i < vs.length) : ∃ g c gi ci, v = .slice (some ⟨g, 0, none⟩) vs.length c ∧ g < w.heap.size ∧ w.cell? ⟨g, i, none⟩ = some (.slice (some ⟨gi, 0, none⟩) n ci) ∧ gi < w.heap.size ∧ ∀ j, j < n → w.cell? ⟨gi, j, none⟩ = some (.int .i64 (D i j)) := by
  obtain ⟨gi, ci, cur, k1, k2, k3, k4⟩ := h.row i hi
  obtain ⟨g, cap, e, hg, hc⟩ := own_at h.own hi hi
  exact ⟨g, cap, gi, ci, e, hg, by rw [hc, k1], (Array.getElem?_eq_some_iff.1 k3).1, fun j hj => by rw [cell_of_row _ _ _ _ _ _ k3]; exact k4 j hj⟩
/- a row more: it is made, with memory of its own -/
theorem GridR.grown {w w' : World} {B U n : Nat} {v l : Value} {D : Nat → Nat → Int} {vs : List Value} {Bl q : Nat} {zs : List Value} (h : GridR w B U v n D vs) (hl : w.ownsRow Bl 3 1 l q zs) (hB : U ≤ Bl) (hg : w.grownBy w' l.ownBlock) : GridR w' B U v n D vs :=
  ⟨h.own.kept hg (own_ne h.own hl (by decide)), fun i hi => by
    obtain ⟨gi, ci, cur, k1, k2, k3, k4⟩ := h.row i hi
    refine ⟨gi, ci, cur, k1, k2, ?_, k4⟩
    rw [hg.block _ (Array.getElem?_eq_some_iff.1 k3).1 (fun e => by have h5 := (hl.lt _ e.symm).1; omega)]; exact k3⟩
/- and appended -/
theorem GridR.push {w X w' : World} {B U n Bl : Nat} {v v' l : Value} {D : Nat → Nat → Int} {vs zs : List Value} (h : GridR w B U v n D vs) (hl : w.ownsRow Bl 3 1 l n zs) (hn : 0 < n) (hB : B ≤ Bl) (hX : Below w.heap.size w X) (hg : X.grownBy w' v.ownBlock) (ho : w'.ownsRow B 37 1 v' (vs.length + 1) (vs ++ [l]))
    (hz : ∀ j, j < n → zs[j]? = some (.int .i64 (D vs.length j))) : GridR w' B w'.heap.size v' n D (vs ++ [l]) := by
  have hk : Keep [37] w w' := (Keep.of_below hX).trans (Keep.grown (own_below h.own hX) (by simp) hg)
  refine ⟨by rw [List.length_append]; exact ho, fun i hi => ?_⟩
  by_cases hlt : i < vs.length
  · obtain ⟨gi, ci, cur, k1, k2, k3, k4⟩ := h.row i hlt
    have k5 := hk _ _ _ _ k3 (by decide)
    exact ⟨gi, ci, cur, by rw [List.getElem_append_left hlt]; exact k1, ⟨k2.1, (Array.getElem?_eq_some_iff.1 k5).1⟩, k5, k4⟩
  · have hi' : i = vs.length := by simp at hi; omega
    subst hi'
    rcases hl.2 with ⟨_, h0⟩ | ⟨g, cap, cur, rfl, hb, hgc, h1, h2, h3, h4⟩
    · omega
    · have k5 := hk _ _ _ _ hgc (by decide)
      refine ⟨g, cap, cur, by simp, ⟨by omega, (Array.getElem?_eq_some_iff.1 k5).1⟩, k5, fun j hj => ?_⟩
      have h6 := hz j hj
      rw [← h4, List.getElem?_take_of_lt (by omega)] at h6
      simpa using h6

theorem GridR.sq {w : World} {B U n : Nat} {v : Value} {D : Nat → Nat → Int} {vs : List Value} (h : GridR w B U v n D vs) (hl : vs.length = n) (hn : n ≤ 100) : SqR w v n D := by
  obtain ⟨ao, c, hv, _, _⟩ := own_val h.own
  rw [hl] at hv
  refine ⟨ao, c, hv, hn, fun i hi => ?_⟩
  obtain ⟨g, c', gi, ci, e, h1, h2, h3, h4⟩ := h.at (i := i) (by omega)
  rw [hl, hv] at e
  cases e
  exact ⟨g, gi, ci, rfl, h1, h2, h3, h4⟩
/- rows that came in: lists of lists -/
def LRows (w : World) (ao : Option Addr) (n : Nat) (ra : Nat → Option Addr) (rn rc : Nat → Nat) (Q : Nat → Nat → Int) : Prop :=
  0 < n → ∃ b o, ao = some ⟨b, o, none⟩ ∧ b < w.heap.size ∧ ∀ i, i < n → w.cell? ⟨b, o + i, none⟩ = some (.slice (ra i) (rn i) (rc i)) ∧ rn i ≤ 9223372036854775807 ∧ (0 < rn i → ∃ b' o', ra i = some ⟨b', o', none⟩ ∧ b' < w.heap.size ∧ ∀ j, j < rn i → w.cell? ⟨b', o' + j, none⟩ = some (.int .i64 (Q i j)) ∧ -9223372036854775808 ≤ Q i j ∧ Q i j ≤ 9223372036854775807)
theorem RowAt.own {w : World} {g n B : Nat} {f : Nat → Int} (h : RowAt w g n f) (hB : B ≤ g) (hn : n ≤ 1000) : w.ownsRow B 3 1 (.slice (some ⟨g, 0, none⟩) n n) n (ints ((List.range n).map f)) := by
  obtain ⟨cs, h1, h2, h3⟩ := h
  have e : cs.toList = ints ((List.range n).map f) := by
    apply List.ext_getElem?
    intro i
    by_cases hi : i < n
    · rw [Array.getElem?_toList, h3 i hi]; simp [ints, hi]
    · rw [List.getElem?_eq_none (by simp; omega), List.getElem?_eq_none (by simp [ints]; omega)]
  refine ⟨by simp [ints], .inr ⟨g, n, cs, rfl, hB, h1, Nat.le_refl _, by unfold maxLen; omega, by simp [h2], ?_⟩⟩
  rw [← e]; exact List.take_of_length_le (by simp [h2])
theorem GridR.put {w : World} {B U n g k m : Nat} {v x : Value} {D : Nat → Nat → Int} {vs : List Value} {f : Nat → Int} (h : GridR w B U v n D vs) (hg : U ≤ g) (hr : RowAt w g m f) : GridR (w.setCell ⟨g, k, none⟩ x) B U v n D vs := by
  obtain ⟨cs, hc, _⟩ := hr
  refine ⟨⟨h.own.1, ?_⟩, fun i hi => ?_⟩
  · rcases h.own.2 with h1 | ⟨g', cap, cur, h1, h2, h3, h4⟩
    · exact .inl h1
    · refine .inr ⟨g', cap, cur, h1, h2, (Below.heap_setCell _ _ _ _ (by show g' ≠ g; intro e; rw [e, hc] at h3; cases h3)).trans h3, h4⟩
  · obtain ⟨gi, ci, cur, k1, k2, k3, k4⟩ := h.row i hi
    exact ⟨gi, ci, cur, k1, k2, (Below.heap_setCell _ _ _ _ (by show gi ≠ g; omega)).trans k3, k4⟩
def celB (rn : Nat → Nat) (Q : Nat → Nat → Int) (i j : Nat) : Int := if j < rn i then bentS (Q i j) (-1) 200000 else -1
theorem celB_ok (rn : Nat → Nat) (Q : Nat → Nat → Int) (n : Nat) : CellOk n (celB rn Q) := fun i j _ _ => by
  unfold celB
  split
  · exact bentS_range _ _ _ (by omega)
  · omega

set_option maxRecDepth 100000 in
set_option maxHeartbeats 4000000 in
theorem pcells_any (ao : Option Addr) (len c : Nat) (ra : Nat → Option Addr) (rn rc : Nat → Nat) (Q : Nat → Nat → Int) (w : World) (hlen : len ≤ 9223372036854775807) (hl : LRows w ao len ra rn rc Q) :
    Calls Try.prog 17 #[.slice ao len c] w fun e w' => ∃ x us, e = .returned x ∧ us.length = min len 10 ∧ GridR w' w.heap.size w'.heap.size x (min len 10) (celB rn Q) us ∧ Below w.heap.size w w' := by
  obtain ⟨i0, hi, hz0, hz1, hz2⟩ := info_parts Try.infoInt
  obtain ⟨j0, hj, hy0, hy1, hy2⟩ := info_parts Try.infoInts
  obtain ⟨n, hn⟩ : ∃ n, n = min len 10 := ⟨_, rfl⟩
  rw [← hn]
  have hn10 : n ≤ 10 := by omega
  have hnl : n ≤ len := by omega
  have HNE : Hid (n = min len 10) := hn
  have HL := hid hl
  obtain ⟨F, hF⟩ : ∃ F, F = celB rn Q := ⟨_, rfl⟩
  rw [← hF]
  have HFE := hid hF
  clear hl hn hF
  by_cases h10 : len ≤ 10
  · have hnn : n = len := by have := HNE.out; omega
    subst hnn
    clear HNE
    go_enter Try.func17, Try.ntmps17
    go_wp2_with fail
    go_loopw [4, 5] (fun ov i wr => ∃ (p : Nat) (os : List Value), i = .int .i64 p ∧ p ≤ n ∧ os.length = p ∧ Hid (GridR wr w.heap.size wr.heap.size ov n F os) ∧ Hid (Below w.heap.size w wr)) (fun _ i _ => n - (intOf i).toNat)
    case atStart => exact ⟨0, [], rfl, by omega, rfl, GridR.nil _ _ _ _ _, Below.refl _ _⟩
    case round =>
      obtain ⟨p, os, rfl, hp, hol, HG, HB⟩ := hrel
      have hbs := HB.out.size
      obtain ⟨avo, cvo, hov, _, _⟩ := own_val HG.out.own
      rw [hol] at hov
      subst hov
      by_cases hlp : p < n
      · obtain ⟨lb, lo, hla, hlb, hrow⟩ := HL.out (by omega)
        obtain ⟨hr0, hr1, hr2⟩ := hrow p (by omega)
        subst hla
        obtain ⟨wo, hwo⟩ : ∃ wo, wo = wr := ⟨_, rfl⟩
        rw [← hwo] at HG HB hbs
        clear hrow
        go_wp2_with (first
          | (at_make; refine wpList_make_full _ rfl _ _ 37 rfl wr.heap.size 3 i0 (.int .i64 0) 1 Try.underlying37 hi hz0 hz1 .i64 .i64 _ _ n rfl rfl ?q1 ?q2 ?q3 ?q4 ?q5 ?_)
          | fail)
        case q1 => rfl
        case q2 => rfl
        case q3 => rw [hz2]; omega
        case q4 => unfold maxLen; omega
        case q5 => exact Nat.le_refl _
        rw [← hwo]
        intro w2 hown2 hgrow2
        have HB2 : Hid (Below wo.heap.size wo w2) := (Below.refl _ _).grown hgrow2 (Nat.le_refl _) (by simp)
        have HR2 : Hid (RowAt w2 wo.heap.size n (vS (F p) 0)) := by
          obtain ⟨_, cur, h1, h2, h3⟩ := own_row hown2
          refine ⟨cur, h1, h2, fun j hj => ?_⟩
          rw [h3 j hj, toList_madeCells_one, List.getElem?_replicate, if_pos (by omega)]; unfold vS; rw [if_neg (by omega)]
        have HG2 : Hid (GridR w2 w.heap.size wo.heap.size (.slice avo p cvo) n F os) := HG.out.below HB2.out (Nat.le_refl _)
        clear hown2 hgrow2 hwo
        go_wp2_with fail
        go_loopw [7] (fun j wr => ∃ q : Nat, j = .int .i64 q ∧ q ≤ n ∧ Hid (RowAt wr wo.heap.size n (vS (F p) q)) ∧ Hid (GridR wr w.heap.size wo.heap.size (.slice avo p cvo) n F os) ∧ Hid (Below wo.heap.size wo wr)) (fun j _ => n - (intOf j).toNat)
        case atStart => exact ⟨0, rfl, by omega, HR2, HG2, HB2⟩
        case round =>
          clear HR2 HG2 HB2
          obtain ⟨q, rfl, hq, HR, HG2, HB2⟩ := hrel
          have hbs2 := HB2.out.size
          have hwl := HR.out.lt
          by_cases hlq : q < n
          · have r0 := HR.out.cell hlq
            have rf := HR.out.frozen q
            have hba : Below w.heap.size w wr := HB.out.trans (HB2.out.mono hbs)
            have l0 : wr.cell? ⟨lb, lo + p, none⟩ = _ := (hba.cell (by exact hlb)).trans hr0
            have l1 : lb < wr.heap.size := Nat.lt_of_lt_of_le hlb hba.size
            have ip : (0 : Int) ≤ (p : Int) := by omega
            have jp : (p : Int) < (n : Int) := by omega
            have iq : (0 : Int) ≤ (q : Int) := by omega
            have jq : (q : Int) < (n : Int) := by omega
            have hne : lb ≠ wo.heap.size := by omega
            have HUP : Hid (∀ x, x = F p q → up1 (vS (F p) q) q x = vS (F p) (q + 1)) := fun x e => by rw [e]; exact vS_succ (F p) q
            have HBAX := hid hba
            clear hba
            by_cases hjr : q < rn p
            · obtain ⟨b', o', hra, hb', hcell⟩ := hr2 (by omega)
              obtain ⟨hq0, hq1⟩ := hcell q hjr
              have l2 : wr.cell? ⟨b', o' + q, none⟩ = _ := (HBAX.out.cell (by exact hb')).trans hq0
              have l3 : b' < wr.heap.size := Nat.lt_of_lt_of_le hb' HBAX.out.size
              have HFV : Hid (bentS (Q p q) (-1) 200000 = F p q) := by show _ = _; rw [HFE.out]; unfold celB; rw [if_pos hjr]
              rw [hra] at l0
              have hne2 : b' ≠ wo.heap.size := by omega
              have jr2 : (q : Int) < (rn p : Int) := by omega
              clear hcell hq0
              go_wp2_with fail
              refine (bent_any (Q p q) (-1) 200000 _ hq1.1 hq1.2 (by omega) (by omega) (by omega)).mono ?_
              rintro e3 w3 ⟨rfl, hw3⟩
              rw [hw3]
              clear hw3
              have HR4 : Hid (RowAt (wr.setCell ⟨wo.heap.size, q, none⟩ (.int .i64 (-1))) wo.heap.size n (up1 (vS (F p) q) q (-1))) := HR.out.put hlq _
              have r5 := HR4.out.cell hlq
              have r6 := HR4.out.frozen q
              have HG5 : Hid (GridR (wr.setCell ⟨wo.heap.size, q, none⟩ (.int .i64 (-1))) w.heap.size wo.heap.size (.slice avo p cvo) n F os) := HG2.out.put (Nat.le_refl _) HR.out
              have HB5 : Hid (Below wo.heap.size wo (wr.setCell ⟨wo.heap.size, q, none⟩ (.int .i64 (-1)))) := HB2.out.setCell (by exact Nat.le_refl _) _
              rw [HFV.out]
              have HUU : Hid (up1 (up1 (vS (F p) q) q (-1)) q (F p q) = vS (F p) (q + 1)) := by
                show _ = _
                rw [← HUP.out _ rfl]
                funext j
                unfold up1
                by_cases h : j = q
                · rw [if_pos h, if_pos h]
                · rw [if_neg h, if_neg h, if_neg h]
              go_wp2
              go_roundw
              case rel => exact ⟨q + 1, by go_num, by omega, by rw [← HUU.out]; exact HR4.out.put hlq _, HG5.out.put (Nat.le_refl _) HR4.out, HB5.out.setCell (by exact Nat.le_refl _) _⟩
              case measure => simp [intOf]; omega
            · have HFV : Hid ((-1 : Int) = F p q) := by show _ = _; rw [HFE.out]; unfold celB; rw [if_neg hjr]
              have hjr2 : ¬ (q : Int) < (rn p : Int) := by omega
              go_wp2_with go_in
              go_roundw
              case rel => exact ⟨q + 1, by go_num, by omega, by rw [← HUP.out _ HFV.out]; exact HR.out.put hlq _, HG2.out.put (Nat.le_refl _) HR.out, HB2.out.setCell (by exact Nat.le_refl _) _⟩
              case measure => simp [intOf]; omega
          · have hqn : q = n := by omega
            have HRN : Hid (RowAt wr wo.heap.size n (F p)) := HR.out.congr (fun i hi => by unfold vS; rw [if_pos (by omega)])
            have HL' := hid (HRN.out.own (B := wo.heap.size) (Nat.le_refl _) (by omega))
            clear hqn HR HRN
            go_wp2_with (at_builtin; refine wpList_append_own _ rfl _ _ 28 rfl w.heap.size 37 j0 (.slice none 0 0) 1 24 Try.underlying28 hj hy0 hy1 hy2 rfl (by decide) _ _ _ rfl ((HG2.out.own).alloc _) ⟨wr.heap.size, 0, none⟩ 1 1 [.slice (some ⟨wo.heap.size, 0, none⟩) n n] rfl rfl ?c1 ?c2 ?c3 ?c4 ?c5 ?_)
            case c1 => exact news_at rfl rfl
            case c2 => intro u hu; simp at hu; subst hu; rfl
            case c3 => unfold maxLen; omega
            case c4 => omega
            case c5 => simp; omega
            intro v7 w7 hown7 hgr7 _
            have hgg : (wr.alloc (.cells #[.slice (some ⟨wo.heap.size, 0, none⟩) n n] 37)).grownBy w7 (Value.slice avo p cvo).ownBlock := hgr7
            have HG7 : Hid (GridR w7 w.heap.size w7.heap.size v7 n F (os ++ [.slice (some ⟨wo.heap.size, 0, none⟩) n n])) := HG2.out.push HL'.out (by omega) (by omega) (below1 wr _) hgg (by rw [hol]; exact hown7) (fun j hj => by rw [hol]; simp [ints, hj])
            have HB7 : Hid (Below w.heap.size w w7) := ((HB.out.trans (HB2.out.mono hbs)).trans ((below1 wr _).mono (by omega))).grown hgg (by simp; omega) (fun x hx => (HG2.out.own.lt x (by rw [hx])).1)
            obtain ⟨_, _, hv7, _, _⟩ := own_val hown7
            subst hv7
            clear hown7 hgr7 hgg HG2 HB2 HL'
            go_wp2
            go_roundw
            case rel => exact ⟨p + 1, _, by go_num, by omega, by simp [hol], HG7, HB7⟩
            case measure => simp [intOf]; omega
      · go_wp2
        go_ret
        exact ⟨_, os, rfl, by omega, HG.out, HB.out⟩
  · have hnn : n = 10 := by have := HNE.out; omega
    have h10i : (10 : Int) = (n : Int) := by omega
    have HTN := hid h10i
    clear HNE hnn h10i
    go_enter Try.func17, Try.ntmps17
    go_wp2_with fail
    have hdl : (n : Int) < (len : Int) := by have := HTN.out; omega
    rw [HTN.out]
    simp only [hdl, decide_true]
    clear hdl h10
    go_loopw [4, 5] (fun ov i wr => ∃ (p : Nat) (os : List Value), i = .int .i64 p ∧ p ≤ n ∧ os.length = p ∧ Hid (GridR wr w.heap.size wr.heap.size ov n F os) ∧ Hid (Below w.heap.size w wr)) (fun _ i _ => n - (intOf i).toNat)
    case atStart => exact ⟨0, [], rfl, by omega, rfl, GridR.nil _ _ _ _ _, Below.refl _ _⟩
    case round =>
      obtain ⟨p, os, rfl, hp, hol, HG, HB⟩ := hrel
      have hbs := HB.out.size
      obtain ⟨avo, cvo, hov, _, _⟩ := own_val HG.out.own
      rw [hol] at hov
      subst hov
      by_cases hlp : p < n
      · obtain ⟨lb, lo, hla, hlb, hrow⟩ := HL.out (by omega)
        obtain ⟨hr0, hr1, hr2⟩ := hrow p (by omega)
        subst hla
        obtain ⟨wo, hwo⟩ : ∃ wo, wo = wr := ⟨_, rfl⟩
        rw [← hwo] at HG HB hbs
        clear hrow
        go_wp2_with (first
          | (at_make; refine wpList_make_full _ rfl _ _ 37 rfl wr.heap.size 3 i0 (.int .i64 0) 1 Try.underlying37 hi hz0 hz1 .i64 .i64 _ _ n rfl rfl ?q1 ?q2 ?q3 ?q4 ?q5 ?_)
          | fail)
        case q1 => rfl
        case q2 => rfl
        case q3 => rw [hz2]; omega
        case q4 => unfold maxLen; omega
        case q5 => exact Nat.le_refl _
        rw [← hwo]
        intro w2 hown2 hgrow2
        have HB2 : Hid (Below wo.heap.size wo w2) := (Below.refl _ _).grown hgrow2 (Nat.le_refl _) (by simp)
        have HR2 : Hid (RowAt w2 wo.heap.size n (vS (F p) 0)) := by
          obtain ⟨_, cur, h1, h2, h3⟩ := own_row hown2
          refine ⟨cur, h1, h2, fun j hj => ?_⟩
          rw [h3 j hj, toList_madeCells_one, List.getElem?_replicate, if_pos (by omega)]; unfold vS; rw [if_neg (by omega)]
        have HG2 : Hid (GridR w2 w.heap.size wo.heap.size (.slice avo p cvo) n F os) := HG.out.below HB2.out (Nat.le_refl _)
        clear hown2 hgrow2 hwo
        go_wp2_with fail
        go_loopw [7] (fun j wr => ∃ q : Nat, j = .int .i64 q ∧ q ≤ n ∧ Hid (RowAt wr wo.heap.size n (vS (F p) q)) ∧ Hid (GridR wr w.heap.size wo.heap.size (.slice avo p cvo) n F os) ∧ Hid (Below wo.heap.size wo wr)) (fun j _ => n - (intOf j).toNat)
        case atStart => exact ⟨0, rfl, by omega, HR2, HG2, HB2⟩
        case round =>
          clear HR2 HG2 HB2
          obtain ⟨q, rfl, hq, HR, HG2, HB2⟩ := hrel
          have hbs2 := HB2.out.size
          have hwl := HR.out.lt
          by_cases hlq : q < n
          · have r0 := HR.out.cell hlq
            have rf := HR.out.frozen q
            have hba : Below w.heap.size w wr := HB.out.trans (HB2.out.mono hbs)
            have l0 : wr.cell? ⟨lb, lo + p, none⟩ = _ := (hba.cell (by exact hlb)).trans hr0
            have l1 : lb < wr.heap.size := Nat.lt_of_lt_of_le hlb hba.size
            have ip : (0 : Int) ≤ (p : Int) := by omega
            have jp : (p : Int) < (len : Int) := by omega
            have iq : (0 : Int) ≤ (q : Int) := by omega
            have jq : (q : Int) < (n : Int) := by omega
            have hne : lb ≠ wo.heap.size := by omega
            have HUP : Hid (∀ x, x = F p q → up1 (vS (F p) q) q x = vS (F p) (q + 1)) := fun x e => by rw [e]; exact vS_succ (F p) q
            have HBAX := hid hba
            clear hba
            by_cases hjr : q < rn p
            · obtain ⟨b', o', hra, hb', hcell⟩ := hr2 (by omega)
              obtain ⟨hq0, hq1⟩ := hcell q hjr
              have l2 : wr.cell? ⟨b', o' + q, none⟩ = _ := (HBAX.out.cell (by exact hb')).trans hq0
              have l3 : b' < wr.heap.size := Nat.lt_of_lt_of_le hb' HBAX.out.size
              have HFV : Hid (bentS (Q p q) (-1) 200000 = F p q) := by show _ = _; rw [HFE.out]; unfold celB; rw [if_pos hjr]
              rw [hra] at l0
              have hne2 : b' ≠ wo.heap.size := by omega
              have jr2 : (q : Int) < (rn p : Int) := by omega
              clear hcell hq0
              go_wp2_with fail
              refine (bent_any (Q p q) (-1) 200000 _ hq1.1 hq1.2 (by omega) (by omega) (by omega)).mono ?_
              rintro e3 w3 ⟨rfl, hw3⟩
              rw [hw3]
              clear hw3
              have HR4 : Hid (RowAt (wr.setCell ⟨wo.heap.size, q, none⟩ (.int .i64 (-1))) wo.heap.size n (up1 (vS (F p) q) q (-1))) := HR.out.put hlq _
              have r5 := HR4.out.cell hlq
              have r6 := HR4.out.frozen q
              have HG5 : Hid (GridR (wr.setCell ⟨wo.heap.size, q, none⟩ (.int .i64 (-1))) w.heap.size wo.heap.size (.slice avo p cvo) n F os) := HG2.out.put (Nat.le_refl _) HR.out
              have HB5 : Hid (Below wo.heap.size wo (wr.setCell ⟨wo.heap.size, q, none⟩ (.int .i64 (-1)))) := HB2.out.setCell (by exact Nat.le_refl _) _
              rw [HFV.out]
              have HUU : Hid (up1 (up1 (vS (F p) q) q (-1)) q (F p q) = vS (F p) (q + 1)) := by
                show _ = _
                rw [← HUP.out _ rfl]
                funext j
                unfold up1
                by_cases h : j = q
                · rw [if_pos h, if_pos h]
                · rw [if_neg h, if_neg h, if_neg h]
              go_wp2
              go_roundw
              case rel => exact ⟨q + 1, by go_num, by omega, by rw [← HUU.out]; exact HR4.out.put hlq _, HG5.out.put (Nat.le_refl _) HR4.out, HB5.out.setCell (by exact Nat.le_refl _) _⟩
              case measure => simp [intOf]; omega
            · have HFV : Hid ((-1 : Int) = F p q) := by show _ = _; rw [HFE.out]; unfold celB; rw [if_neg hjr]
              have hjr2 : ¬ (q : Int) < (rn p : Int) := by omega
              go_wp2_with go_in
              go_roundw
              case rel => exact ⟨q + 1, by go_num, by omega, by rw [← HUP.out _ HFV.out]; exact HR.out.put hlq _, HG2.out.put (Nat.le_refl _) HR.out, HB2.out.setCell (by exact Nat.le_refl _) _⟩
              case measure => simp [intOf]; omega
          · have hqn : q = n := by omega
            have HRN : Hid (RowAt wr wo.heap.size n (F p)) := HR.out.congr (fun i hi => by unfold vS; rw [if_pos (by omega)])
            have HL' := hid (HRN.out.own (B := wo.heap.size) (Nat.le_refl _) (by omega))
            clear hqn HR HRN
            go_wp2_with (at_builtin; refine wpList_append_own _ rfl _ _ 28 rfl w.heap.size 37 j0 (.slice none 0 0) 1 24 Try.underlying28 hj hy0 hy1 hy2 rfl (by decide) _ _ _ rfl ((HG2.out.own).alloc _) ⟨wr.heap.size, 0, none⟩ 1 1 [.slice (some ⟨wo.heap.size, 0, none⟩) n n] rfl rfl ?c1 ?c2 ?c3 ?c4 ?c5 ?_)
            case c1 => exact news_at rfl rfl
            case c2 => intro u hu; simp at hu; subst hu; rfl
            case c3 => unfold maxLen; omega
            case c4 => omega
            case c5 => simp; omega
            intro v7 w7 hown7 hgr7 _
            have hgg : (wr.alloc (.cells #[.slice (some ⟨wo.heap.size, 0, none⟩) n n] 37)).grownBy w7 (Value.slice avo p cvo).ownBlock := hgr7
            have HG7 : Hid (GridR w7 w.heap.size w7.heap.size v7 n F (os ++ [.slice (some ⟨wo.heap.size, 0, none⟩) n n])) := HG2.out.push HL'.out (by omega) (by omega) (below1 wr _) hgg (by rw [hol]; exact hown7) (fun j hj => by rw [hol]; simp [ints, hj])
            have HB7 : Hid (Below w.heap.size w w7) := ((HB.out.trans (HB2.out.mono hbs)).trans ((below1 wr _).mono (by omega))).grown hgg (by simp; omega) (fun x hx => (HG2.out.own.lt x (by rw [hx])).1)
            obtain ⟨_, _, hv7, _, _⟩ := own_val hown7
            subst hv7
            clear hown7 hgr7 hgg HG2 HB2 HL'
            go_wp2
            go_roundw
            case rel => exact ⟨p + 1, _, by go_num, by omega, by simp [hol], HG7, HB7⟩
            case measure => simp [intOf]; omega
      · go_wp2
        go_ret
        exact ⟨_, os, rfl, by omega, HG.out, HB.out⟩
end Go.Proofs.Ytebinaopncclgaa
