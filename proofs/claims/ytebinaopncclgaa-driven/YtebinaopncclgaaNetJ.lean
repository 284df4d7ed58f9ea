/- Walks: the net's ways are joined. -/
import Derived.Test.YtebinaopncclgaaPlainH
import Derived.Deep.RegionHeld3
namespace Go.Proofs.Ytebinaopncclgaa
open Go.RowKit Go.IntWalk

set_option maxRecDepth 100000 in
set_option maxHeartbeats 2000000 in
theorem join_any (nb N : Nat) (F : Nat → Nat → Int) (w : World) (h : NetAt w nb N F) (hL : Lens N 10000 F) :
    Calls Try.prog 44 #[.pointer (some ⟨nb, 0, none⟩)] w fun e w' => e = .returned (.tuple #[]) ∧ NetAt w' nb N (fwF F N) ∧ Only nb w w' := by
  have hN := h.2.2.1
  have H := hide' h
  have HL := hide' hL
  clear h hL
  go_enter Try.func44, Try.ntmps44
  go_wp2
  go_loopw [2, 3, 4] (fun i _ _ wr => ∃ v : Nat, i = .int .i64 v ∧ v ≤ N ∧ Hid (NetAt wr nb N (fwF F v)) ∧ Hid (Only nb w wr)) (fun i _ _ _ => N - (intOf i).toNat)
  case atStart => exact ⟨0, rfl, by omega, H, Only.refl _ _⟩
  case round =>
    clear H
    obtain ⟨v, rfl, hv, HI, HO⟩ := hrel
    have c0 := HI.out.2.1
    by_cases hlv : v < N
    · have HLv : Hid (Lens N 40960000 (fwF F v)) := fw_lens12 HL.out hN hv
      have HE : Hid (fwF F (v + 1) = gF v (fwF F v)) := rfl
      generalize fwF F v = E at *
      have hv12 : v < 12 := by omega
      go_wp2
      go_loopw [3, 4] (fun i _ wr => ∃ a : Nat, i = .int .i64 a ∧ a ≤ N ∧ Hid (NetAt wr nb N (mixF v E a 0)) ∧ Hid (Only nb w wr)) (fun i _ _ => N - (intOf i).toNat)
      case atStart => exact ⟨0, rfl, by omega, net_congr HI.out (fun x y _ _ => mix_start.symm), HO⟩
      case round =>
        clear HI HO c0
        obtain ⟨a, rfl, ha, HI, HO⟩ := hrel
        have c0 := HI.out.2.1
        by_cases hla : a < N
        · have ha12 : a < 12 := by omega
          go_wp2
          go_loopw [4] (fun i wr => ∃ b : Nat, i = .int .i64 b ∧ b ≤ N ∧ Hid (NetAt wr nb N (mixF v E a b)) ∧ Hid (Only nb w wr)) (fun i _ => N - (intOf i).toNat)
          case atStart => exact ⟨0, rfl, by omega, HI, HO⟩
          case round =>
            clear HI HO c0
            obtain ⟨b, rfl, hb, HI, HO⟩ := hrel
            have c0 := HI.out.2.1
            by_cases hlb : b < N
            · have hb12 : b < 12 := by omega
              have c1 : wr.cell? ⟨nb, 1 + a * 12 + v, none⟩ = some (.int .i64 (E a v)) := by rw [HI.out.2.2.2 a v hla hlv, mix_col HLv.out hlv]
              have c2 : wr.cell? ⟨nb, 1 + v * 12 + b, none⟩ = some (.int .i64 (E v b)) := by rw [HI.out.2.2.2 v b hlv hlb, mix_row HLv.out hlv]
              have l1 := HLv.out.2 a v hla hlv
              have l2 := HLv.out.2 v b hlv hlb
              by_cases e1 : E a v = -1
              · have b1 : (E a v != -1) = false := by simp [e1]
                have HX : Hid (E a b = gF v E a b) := by show _ = _; unfold gF; rw [if_neg (by omega)]
                clear e1 c2
                go_wp2
                go_roundw
                case rel => exact ⟨b + 1, by go_num, by omega, net_congr HI.out (fun x y _ _ => mix_same HX.out x y), HO⟩
                case measure => simp [intOf]; omega
              · have b1 : (E a v != -1) = true := by simp [e1]
                by_cases e2 : E v b = -1
                · have b2 : (E v b != -1) = false := by simp [e2]
                  have HX : Hid (E a b = gF v E a b) := by show _ = _; unfold gF; rw [if_neg (by omega)]
                  clear e1 e2
                  go_wp2
                  go_roundw
                  case rel => exact ⟨b + 1, by go_num, by omega, net_congr HI.out (fun x y _ _ => mix_same HX.out x y), HO⟩
                  case measure => simp [intOf]; omega
                · have b2 : (E v b != -1) = true := by simp [e2]
                  have HX : Hid (shortS (mixF v E a b a b) (E a v + E v b) = gF v E a b) := by show _ = _; rw [mix_at]; unfold gF; rw [if_pos ⟨e1, e2⟩]
                  have hcon := fun W hW => shorten_any nb N a b (mixF v E a b) (E a v + E v b) W hW hla hlb
                  have HC := hide' hcon
                  clear hcon e1 e2
                  go_wp2_with fail
                  have ia : (0 : Int) ≤ (a : Int) := by omega
                  have ib : (0 : Int) ≤ (b : Int) := by omega
                  have iv : (0 : Int) ≤ (v : Int) := by omega
                  have ja : (a : Int) < 12 := by omega
                  have jb : (b : Int) < 12 := by omega
                  have jv : (v : Int) < 12 := by omega
                  have hw : IntKind.i64.wrap (E a v + E v b) = E a v + E v b := i64_in _ (by omega)
                  go_region_held3 (fun w' => w'.cell? ⟨nb, 1 + a * 12 + v, none⟩ = some (.int .i64 (E a v)) ∧ w'.cell? ⟨nb, 1 + v * 12 + b, none⟩ = some (.int .i64 (E v b))) (go_keep)
                    (first
                      | (go_at_call 43; refine (HC.out _ (by exact net_other HI.out rfl)).mono ?_; rintro e w2 ⟨rfl, hn2, ho2⟩; have hn3 := net_congr hn2 (mix_next' HX.out); have k1 := (hn3.2.2.2 a v hla hlv).trans (mix_col' HLv.out hlv); have k2 := (hn3.2.2.2 v b hlv hlb).trans (mix_row' HLv.out hlv); have HN3 := hide' hn3; have HO3 := hide' ho2; clear hn2 hn3 ho2))
                  clear k1 k2 c1 c2 c0 hw
                  go_wp2
                  go_roundw
                  case rel => exact ⟨b + 1, by go_num, by omega, HN3, HO.out.trans ⟨HO3.out.os, HO3.out.tape, HO3.out.output, HO3.out.size, HO3.out.block⟩⟩
                  case measure => simp [intOf]; omega
            · go_wp2
              go_roundw
              case rel => exact ⟨a + 1, by go_num, by omega, net_congr HI.out (fun x y _ hy => by rw [show b = N by omega]; exact mix_row_end hy), HO⟩
              case measure => simp [intOf]; omega
        · go_wp2
          go_roundw
          case rel => exact ⟨v + 1, by go_num, by omega, net_congr HI.out (fun x y hx _ => by rw [HE.out, show a = N by omega]; exact mix_end hx), HO⟩
          case measure => simp [intOf]; omega
    · have hvN : v = N := by omega
      subst hvN
      go_wp2
      go_end0
      exact ⟨rfl, HI.out, HO.out⟩
end Go.Proofs.Ytebinaopncclgaa
