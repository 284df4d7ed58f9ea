/- Walks of the document's answer: ways over one node more. -/
import Derived.Test.YtebinaopncclgaaGreatDoorRefW
namespace Go.Proofs.YtebinaopncclgaaGreatDoor
open Go.RowKit Go.IntWalk

set_option maxRecDepth 100000 in
set_option maxHeartbeats 2000000 in
theorem over_any (B U N k : Nat) (v0 : Value) (F : Nat → Nat → Int) (vs0 : List Value) (w : World) (hN : N ≤ 12) (hk : k < N) (hl : vs0.length = N) (hF : ∀ a b, a < N → b < N → -1 ≤ F a b ∧ F a b ≤ 40960000) (h : GridR w B U v0 N F vs0) :
    Calls Tryz.prog 120 #[v0, .int .i64 k] w fun e w' => ∃ v vs, e = .returned v ∧ vs.length = N ∧ GridR w' w.heap.size w'.heap.size v N (gF k F) vs ∧ Below w.heap.size w w' := by
  obtain ⟨i0, hi, hz0, hz1, hz2⟩ := info_parts Tryz.infoInt
  obtain ⟨j0, hj, hy0, hy1, hy2⟩ := info_parts Tryz.infoInts
  have HH := hid h
  have HF := hid hF
  have HVL := hid hl
  obtain ⟨a0, c0, hv0, _, _⟩ := own_val h.own
  rw [hl] at hv0
  subst hv0
  clear h hF hl
  go_enter Tryz.func120, Tryz.ntmps120
  go_wp2_with fail
  go_loopw [5, 6] (fun ov i wr => ∃ (p : Nat) (vs : List Value), i = .int .i64 p ∧ p ≤ N ∧ vs.length = p ∧ Hid (GridR wr w.heap.size wr.heap.size ov N (gF k F) vs) ∧ Hid (Below w.heap.size w wr)) (fun _ i _ => N - (intOf i).toNat)
  case atStart => exact ⟨0, [], rfl, by omega, rfl, GridR.nil _ _ _ _ _, Below.refl _ _⟩
  case round =>
    obtain ⟨p, vs, rfl, hp, hvl, HG, HB⟩ := hrel
    have hbs := HB.out.size
    obtain ⟨avo, cvo, hov, _, _⟩ := own_val HG.out.own
    rw [hvl] at hov
    subst hov
    by_cases hlt : p < N
    · obtain ⟨wo, hwo⟩ : ∃ wo, wo = wr := ⟨_, rfl⟩
      have HG0 : Hid (GridR wo w.heap.size wo.heap.size (.slice avo p cvo) N (gF k F) vs) := by show GridR _ _ _ _ _ _ _; rw [hwo]; exact HG.out
      have HB0 : Hid (Below w.heap.size w wo) := by show Below _ _ _; rw [hwo]; exact HB.out
      have hbs0 : w.heap.size ≤ wo.heap.size := HB0.out.size
      go_wp2_with fail
      rw [← hwo]
      clear hwo HG HB hbs
      go_loopw [7, 8] (fun l j wr => ∃ q : Nat, j = .int .i64 q ∧ q ≤ N ∧ Hid (wr.ownsRow wo.heap.size 3 1 l q (ints ((List.range q).map (gF k F p)))) ∧ Hid (GridR wr w.heap.size wo.heap.size (.slice avo p cvo) N (gF k F) vs) ∧ Hid (Below wo.heap.size wo wr)) (fun _ j _ => N - (intOf j).toNat)
      case atStart => exact ⟨0, rfl, by omega, World.ownsRow_nil _ _ _ _, HG0, Below.refl _ _⟩
      case round =>
        obtain ⟨q, rfl, hq, HL, HG, HB⟩ := hrel
        have hbs := HB.out.size
        obtain ⟨avl, cvl, hlv, _, _⟩ := own_val HL.out
        subst hlv
        by_cases hlq : q < N
        · have hsrc := HH.out.below (HB0.out.trans (HB.out.mono hbs0)) (Nat.le_refl U)
          obtain ⟨g, c, gp, cp, e1, hg, x1, hgp, y1⟩ := hsrc.at (i := p) (by rw [HVL.out]; exact hlt)
          obtain ⟨g', c', gk, ck, e2, _, x2, hgk, y2⟩ := hsrc.at (i := k) (by rw [HVL.out]; exact hk)
          rw [HVL.out] at e1 e2
          cases e1
          cases e2
          have x3 := y1 q hlq
          have x4 := y1 k hk
          have x5 := y2 q hlq
          clear y1 y2 hsrc
          have f1 := HF.out p k hlt hk
          have f2 := HF.out k q hk hlq
          have HGF : Hid (gF k F p q = if F p k ≠ -1 ∧ F k q ≠ -1 then shortS (F p q) (F p k + F k q) else F p q) := rfl
          generalize F p q = A at *
          generalize F p k = Bv at *
          generalize F k q = Cv at *
          by_cases hb : Bv = -1
          · have HV : Hid (gF k F p q = A) := by show _ = _; rw [HGF.out, if_neg (by omega)]
            have e1 : (Bv != -1) = false := by simp [hb]
            clear HGF f1 f2 hb
            go_wp2_with (first
              | (go_at_call 140; refine (least_any _ _ _).mono ?_; rintro e5 w5 ⟨rfl, rfl⟩)
              | (at_builtin; refine wpList_append_own _ rfl _ _ 53 rfl wo.heap.size 3 i0 (.int .i64 0) 1 8 Tryz.underlying53 hi hz0 hz1 hz2 rfl (by decide) _ _ _ rfl (HL.out.alloc _) ⟨wr.heap.size, 0, none⟩ 1 1 [.int .i64 A] rfl rfl ?c1 ?c2 ?c3 ?c4 ?c5 ?_))
            case c1 => exact news_at rfl rfl
            case c2 => intro u hu; simp at hu; subst hu; rfl
            case c3 => unfold maxLen; omega
            case c4 => omega
            case c5 => simp; omega
            intro v' w6 hown6 hgr6 _
            have HL2 : Hid (w6.ownsRow wo.heap.size 3 1 v' (q + 1) (ints ((List.range (q + 1)).map (gF k F p)))) := by
              show World.ownsRow _ _ _ _ _ _ _
              have e : ints ((List.range (q + 1)).map (gF k F p)) = ints ((List.range q).map (gF k F p)) ++ [.int .i64 A] := by rw [← HV.out]; simp [ints, List.range_succ]
              rw [e]; exact hown6
            have hgg : (wr.alloc (.cells #[.int .i64 A] 3)).grownBy w6 (Value.slice avl q cvl).ownBlock := hgr6
            have HG3 : Hid (GridR w6 w.heap.size wo.heap.size (.slice avo p cvo) N (gF k F) vs) := (HG.out.below (below1 wr _) (Nat.le_refl _)).grown (own_below HL.out (below1 wr _)) (Nat.le_refl _) hgg
            have HB3 : Hid (Below wo.heap.size wo w6) := (HB.out.trans ((below1 wr _).mono HB.out.size)).grown hgg (by have := HB.out.size; simp; omega) (fun x hx => (HL.out.lt x hx).1)
            obtain ⟨_, _, hv6, _, _⟩ := own_val HL2.out
            subst hv6
            clear hown6 hgr6 hgg x1 x2 x3 x4 x5
            go_wp2
            go_roundw
            case rel => exact ⟨q + 1, by go_num, by omega, HL2, HG3, HB3⟩
            case measure => simp [intOf]; omega
          · by_cases hc : Cv = -1
            · have HV : Hid (gF k F p q = A) := by show _ = _; rw [HGF.out, if_neg (by omega)]
              have e1 : (Bv != -1) = true := by simp [hb]
              have e2 : (Cv != -1) = false := by simp [hc]
              clear HGF f1 f2 hb hc
              go_wp2_with (first
                | (go_at_call 140; refine (least_any _ _ _).mono ?_; rintro e5 w5 ⟨rfl, rfl⟩)
                | (at_builtin; refine wpList_append_own _ rfl _ _ 53 rfl wo.heap.size 3 i0 (.int .i64 0) 1 8 Tryz.underlying53 hi hz0 hz1 hz2 rfl (by decide) _ _ _ rfl (HL.out.alloc _) ⟨wr.heap.size, 0, none⟩ 1 1 [.int .i64 A] rfl rfl ?c1 ?c2 ?c3 ?c4 ?c5 ?_))
              case c1 => exact news_at rfl rfl
              case c2 => intro u hu; simp at hu; subst hu; rfl
              case c3 => unfold maxLen; omega
              case c4 => omega
              case c5 => simp; omega
              intro v' w6 hown6 hgr6 _
              have HL2 : Hid (w6.ownsRow wo.heap.size 3 1 v' (q + 1) (ints ((List.range (q + 1)).map (gF k F p)))) := by
                show World.ownsRow _ _ _ _ _ _ _
                have e : ints ((List.range (q + 1)).map (gF k F p)) = ints ((List.range q).map (gF k F p)) ++ [.int .i64 A] := by rw [← HV.out]; simp [ints, List.range_succ]
                rw [e]; exact hown6
              have hgg : (wr.alloc (.cells #[.int .i64 A] 3)).grownBy w6 (Value.slice avl q cvl).ownBlock := hgr6
              have HG3 : Hid (GridR w6 w.heap.size wo.heap.size (.slice avo p cvo) N (gF k F) vs) := (HG.out.below (below1 wr _) (Nat.le_refl _)).grown (own_below HL.out (below1 wr _)) (Nat.le_refl _) hgg
              have HB3 : Hid (Below wo.heap.size wo w6) := (HB.out.trans ((below1 wr _).mono HB.out.size)).grown hgg (by have := HB.out.size; simp; omega) (fun x hx => (HL.out.lt x hx).1)
              obtain ⟨_, _, hv6, _, _⟩ := own_val HL2.out
              subst hv6
              clear hown6 hgr6 hgg x1 x2 x3 x4 x5
              go_wp2
              go_roundw
              case rel => exact ⟨q + 1, by go_num, by omega, HL2, HG3, HB3⟩
              case measure => simp [intOf]; omega
            · have HV : Hid (gF k F p q = shorterS A (Bv + Cv)) := by show _ = _; rw [HGF.out, if_pos ⟨hb, hc⟩, shorter_short (by omega)]
              have e1 : (Bv != -1) = true := by simp [hb]
              have e2 : (Cv != -1) = true := by simp [hc]
              clear HGF
              have ip : (0 : Int) ≤ (p : Int) := by omega
              have jp : (p : Int) < (N : Int) := by omega
              have iq : (0 : Int) ≤ (q : Int) := by omega
              have jq : (q : Int) < (N : Int) := by omega
              have ik : (0 : Int) ≤ (k : Int) := by omega
              have jk : (k : Int) < (N : Int) := by omega
              have hww : IntKind.i64.wrap (Bv + Cv) = Bv + Cv := i64_fits _ (by omega)
              go_wp2_with fail
              go_region_held3 (fun w' => w'.cell? ⟨g, p, none⟩ = some (.slice (some ⟨gp, 0, none⟩) N cp) ∧ w'.cell? ⟨g, k, none⟩ = some (.slice (some ⟨gk, 0, none⟩) N ck) ∧ w'.cell? ⟨gp, q, none⟩ = some (.int .i64 A) ∧ w'.cell? ⟨gp, k, none⟩ = some (.int .i64 Bv) ∧ w'.cell? ⟨gk, q, none⟩ = some (.int .i64 Cv)) (go_keep)
                (first
                  | (go_at_call 140; refine (least_any _ _ _).mono ?_; rintro e5 w5 ⟨rfl, rfl⟩))
              clear hww f1 f2 hb hc
              generalize shorterS A (Bv + Cv) = VV at *
              go_wp2_with (at_builtin; refine wpList_append_own _ rfl _ _ 53 rfl wo.heap.size 3 i0 (.int .i64 0) 1 8 Tryz.underlying53 hi hz0 hz1 hz2 rfl (by decide) _ _ _ rfl (HL.out.alloc _) ⟨wr.heap.size, 0, none⟩ 1 1 [.int .i64 VV] rfl rfl ?c1 ?c2 ?c3 ?c4 ?c5 ?_)
              case c1 => exact news_at (w := wr) rfl rfl
              case c2 => intro u hu; simp at hu; subst hu; rfl
              case c3 => unfold maxLen; omega
              case c4 => omega
              case c5 => simp; omega
              intro v' w6 hown6 hgr6 _
              have HL2 : Hid (w6.ownsRow wo.heap.size 3 1 v' (q + 1) (ints ((List.range (q + 1)).map (gF k F p)))) := by
                show World.ownsRow _ _ _ _ _ _ _
                have e : ints ((List.range (q + 1)).map (gF k F p)) = ints ((List.range q).map (gF k F p)) ++ [.int .i64 VV] := by rw [← HV.out]; simp [ints, List.range_succ]
                rw [e]; exact hown6
              have hgg : (wr.alloc (.cells #[.int .i64 VV] 3)).grownBy w6 (Value.slice avl q cvl).ownBlock := ⟨hgr6.os, hgr6.tape, hgr6.output, hgr6.size, hgr6.block⟩
              have HG3 : Hid (GridR w6 w.heap.size wo.heap.size (.slice avo p cvo) N (gF k F) vs) := (HG.out.below (below1 wr _) (Nat.le_refl _)).grown (own_below HL.out (below1 wr _)) (Nat.le_refl _) hgg
              have HB3 : Hid (Below wo.heap.size wo w6) := (HB.out.trans ((below1 wr _).mono HB.out.size)).grown hgg (by have := HB.out.size; simp; omega) (fun x hx => (HL.out.lt x hx).1)
              obtain ⟨_, _, hv6, _, _⟩ := own_val HL2.out
              subst hv6
              clear hown6 hgr6 hgg x1 x2 x3 x4 x5
              go_wp2
              go_roundw
              case rel => exact ⟨q + 1, by go_num, by omega, HL2, HG3, HB3⟩
              case measure => simp [intOf]; omega
        · have hqn : q = N := by omega
          subst hqn
          go_wp2_with (at_builtin; refine wpList_append_own _ rfl _ _ 26 rfl w.heap.size 53 j0 (.slice none 0 0) 1 24 Tryz.underlying26 hj hy0 hy1 hy2 rfl (by decide) _ _ _ rfl ((HG.out.own).alloc _) ⟨wr.heap.size, 0, none⟩ 1 1 [.slice avl q cvl] rfl rfl ?c1 ?c2 ?c3 ?c4 ?c5 ?_)
          case c1 => exact news_at rfl rfl
          case c2 => intro u hu; simp at hu; subst hu; rfl
          case c3 => unfold maxLen; omega
          case c4 => omega
          case c5 => simp; omega
          intro v7 w7 hown7 hgr7 _
          have hgg : (wr.alloc (.cells #[.slice avl q cvl] 53)).grownBy w7 (Value.slice avo p cvo).ownBlock := hgr7
          have HG7 : Hid (GridR w7 w.heap.size w7.heap.size v7 q (gF k F) (vs ++ [.slice avl q cvl])) := HG.out.push HL.out (by omega) (by omega) (below1 wr _) hgg (by rw [hvl]; exact hown7) (fun j hj => by rw [hvl]; simp [ints, hj])
          have HB7 : Hid (Below w.heap.size w w7) := ((HB0.out.trans (HB.out.mono hbs0)).trans ((below1 wr _).mono (by omega))).grown hgg (by simp; omega) (fun x hx => (HG.out.own.lt x (by rw [hx])).1)
          obtain ⟨_, _, hv7, _, _⟩ := own_val hown7
          subst hv7
          clear hown7 hgr7 hgg HL HG HB
          go_wp2
          go_roundw
          case rel => exact ⟨p + 1, _, by go_num, by omega, by simp [hvl], HG7, HB7⟩
          case measure => simp [intOf]; omega
    · go_wp2
      go_ret
      exact ⟨_, vs, rfl, by omega, HG.out, HB.out⟩
end Go.Proofs.YtebinaopncclgaaGreatDoor
