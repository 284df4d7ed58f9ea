/- Walks: the net's ways are joined. -/
import Derived.Test.YtebinaopncclgaaGreatDoorNet
import Derived.Deep.RegionHeld3
namespace Go.Proofs.YtebinaopncclgaaGreatDoor
open Go.RowKit

def gF (v : Nat) (F : Nat → Nat → Int) (x y : Nat) : Int := if F x v ≠ -1 ∧ F v y ≠ -1 then shortS (F x y) (F x v + F v y) else F x y
def mixF (v : Nat) (F : Nat → Nat → Int) (a b : Nat) : Nat → Nat → Int := fun x y => if x < a ∨ (x = a ∧ y < b) then gF v F x y else F x y
/- what the lengths may be -/
def Lens (N : Nat) (M : Int) (F : Nat → Nat → Int) : Prop := (∀ x, x < N → F x x = 0) ∧ ∀ x y, x < N → y < N → -1 ≤ F x y ∧ F x y ≤ M
theorem shortS_self {x v : Int} (hx : x ≠ -1) (h : x ≤ v) : shortS x v = x := by unfold shortS; rw [if_neg (by omega)]
theorem gF_col {N v x : Nat} {M : Int} {F : Nat → Nat → Int} (h : Lens N M F) (hv : v < N) : gF v F x v = F x v := by
  unfold gF
  split
  · rename_i e; rw [h.1 v hv]; exact shortS_self e.1 (by omega)
  · rfl
theorem gF_row {N v y : Nat} {M : Int} {F : Nat → Nat → Int} (h : Lens N M F) (hv : v < N) : gF v F v y = F v y := by
  unfold gF
  split
  · rename_i e; rw [h.1 v hv]; exact shortS_self e.2 (by omega)
  · rfl
theorem mix_col {N v x a b : Nat} {M : Int} {F : Nat → Nat → Int} (h : Lens N M F) (hv : v < N) : mixF v F a b x v = F x v := by
  unfold mixF; split
  · exact gF_col h hv
  · rfl
theorem mix_row {N v y a b : Nat} {M : Int} {F : Nat → Nat → Int} (h : Lens N M F) (hv : v < N) : mixF v F a b v y = F v y := by
  unfold mixF; split
  · exact gF_row h hv
  · rfl
theorem mix_at (v a b : Nat) (F : Nat → Nat → Int) : mixF v F a b a b = F a b := by unfold mixF; rw [if_neg (by omega)]
theorem mix_next {v a b : Nat} {F : Nat → Nat → Int} {u : Int} (hu : u = gF v F a b) (x y : Nat) : upd (mixF v F a b) a b u x y = mixF v F a (b + 1) x y := by
  unfold upd mixF
  by_cases e : x = a ∧ y = b
  · rw [if_pos e, if_pos (by omega), e.1, e.2, hu]
  · rw [if_neg e]
    by_cases h : x < a ∨ (x = a ∧ y < b)
    · rw [if_pos h, if_pos (by omega)]
    · rw [if_neg h, if_neg (by omega)]
theorem mix_same {v a b : Nat} {F : Nat → Nat → Int} (hu : F a b = gF v F a b) (x y : Nat) : mixF v F a b x y = mixF v F a (b + 1) x y := by
  rw [← mix_next hu]; unfold upd; split
  · rename_i e; rw [e.1, e.2, mix_at]
  · rfl
theorem mix_next' {v a b N : Nat} {F : Nat → Nat → Int} {u : Int} (hu : u = gF v F a b) : ∀ x y, x < N → y < N → upd (mixF v F a b) a b u x y = mixF v F a (b + 1) x y := fun x y _ _ => mix_next hu x y
theorem mix_col' {N v x a b : Nat} {M : Int} {F : Nat → Nat → Int} (h : Lens N M F) (hv : v < N) : some (Value.int .i64 (mixF v F a b x v)) = some (.int .i64 (F x v)) := by rw [mix_col h hv]
theorem mix_row' {N v y a b : Nat} {M : Int} {F : Nat → Nat → Int} (h : Lens N M F) (hv : v < N) : some (Value.int .i64 (mixF v F a b v y)) = some (.int .i64 (F v y)) := by rw [mix_row h hv]
theorem mix_row_end {v a N : Nat} {F : Nat → Nat → Int} {x y : Nat} (hy : y < N) : mixF v F a N x y = mixF v F (a + 1) 0 x y := by
  unfold mixF
  by_cases h : x < a ∨ (x = a ∧ y < N)
  · rw [if_pos h, if_pos (by omega)]
  · rw [if_neg h, if_neg (by omega)]
theorem mix_end {v N : Nat} {F : Nat → Nat → Int} {x y : Nat} (hx : x < N) : mixF v F N 0 x y = gF v F x y := by
  unfold mixF; rw [if_pos (by omega)]
theorem mix_start {v : Nat} {F : Nat → Nat → Int} {x y : Nat} : mixF v F 0 0 x y = F x y := by
  unfold mixF; rw [if_neg (by omega)]
theorem gF_lens {N v : Nat} {M : Int} {F : Nat → Nat → Int} (h : Lens N M F) (hM : 0 ≤ M) (hv : v < N) : Lens N (2 * M) (gF v F) := by
  refine ⟨fun x hx => ?_, fun x y hx hy => ?_⟩
  · unfold gF
    have h0 := h.1 x hx
    split
    · rename_i e
      have a := h.2 x v hx hv; have b := h.2 v x hv hx
      rw [h0]; exact shortS_self (by omega) (by omega)
    · exact h0
  · have c := h.2 x y hx hy
    unfold gF
    split
    · rename_i e
      have a := h.2 x v hx hv; have b := h.2 v y hv hy
      unfold shortS; split <;> omega
    · omega
def fwF (F : Nat → Nat → Int) : Nat → Nat → Nat → Int
  | 0 => F
  | v + 1 => gF v (fwF F v)
theorem fw_lens {N : Nat} {M : Int} {F : Nat → Nat → Int} (h : Lens N M F) (hM : 0 ≤ M) : ∀ v, v ≤ N → Lens N (M * 2 ^ v) (fwF F v) := by
  intro v
  induction v with
  | zero => intro _; show Lens N (M * 2 ^ 0) F; simpa using h
  | succ v ih =>
    intro hv
    have := gF_lens (ih (by omega)) (Int.mul_nonneg hM (Int.pow_nonneg (by decide))) (show v < N by omega)
    rw [Int.pow_succ]
    have e : M * (2 ^ v * 2) = 2 * (M * 2 ^ v) := by rw [← Int.mul_assoc, Int.mul_comm]
    rw [e]; exact this
theorem fw_lens12 {N : Nat} {F : Nat → Nat → Int} (h : Lens N 10000 F) (hN : N ≤ 12) {v : Nat} (hv : v ≤ N) : Lens N 40960000 (fwF F v) := by
  have h1 := fw_lens h (by omega) v hv
  refine ⟨h1.1, fun x y hx hy => ⟨(h1.2 x y hx hy).1, Int.le_trans (h1.2 x y hx hy).2 ?_⟩⟩
  have : (2 : Int) ^ v ≤ 4096 := by
    have : v = 0 ∨ v = 1 ∨ v = 2 ∨ v = 3 ∨ v = 4 ∨ v = 5 ∨ v = 6 ∨ v = 7 ∨ v = 8 ∨ v = 9 ∨ v = 10 ∨ v = 11 ∨ v = 12 := by omega
    rcases this with rfl | rfl | rfl | rfl | rfl | rfl | rfl | rfl | rfl | rfl | rfl | rfl | rfl <;> decide
  omega
end Go.Proofs.YtebinaopncclgaaGreatDoor
namespace Go.Proofs.YtebinaopncclgaaGreatDoor
open Go.RowKit Go.IntWalk

set_option maxRecDepth 100000 in
set_option maxHeartbeats 2000000 in
theorem join_any (nb N : Nat) (F : Nat → Nat → Int) (w : World) (h : NetAt w nb N F) (hL : Lens N 10000 F) :
    Calls Tryz.prog 116 #[.pointer (some ⟨nb, 0, none⟩)] w fun e w' => e = .returned (.tuple #[]) ∧ NetAt w' nb N (fwF F N) ∧ Only nb w w' := by
  have hN := h.2.2.1
  have H := hide' h
  have HL := hide' hL
  clear h hL
  go_enter Tryz.func116, Tryz.ntmps116
  go_wp2
  go_loopw [2, 3, 4] (fun i _ _ wr => ∃ v : Nat, i = .int .i64 v ∧ v ≤ N ∧ Hid (NetAt wr nb N (fwF F v)) ∧ Hid (Only nb w wr)) (fun i _ _ _ => N - (intOf i).toNat)
  case atStart => exact ⟨0, rfl, by omega, H, Only.refl _ _⟩
  case round =>
    clear H
    obtain ⟨v, rfl, hv, HI, HO⟩ := hrel
    have c0 := HI.out.2.1
    by_cases hlv : v < N
    · have HLv : Hid (Lens N 40960000 (fwF F v)) := fw_lens12 HL.out hN hv
      have HE : Hid (fwF F (v + 1) = gF v (fwF F v)) := rfl
      generalize fwF F v = E at *
      have hv12 : v < 12 := by omega
      go_wp2
      go_loopw [3, 4] (fun i _ wr => ∃ a : Nat, i = .int .i64 a ∧ a ≤ N ∧ Hid (NetAt wr nb N (mixF v E a 0)) ∧ Hid (Only nb w wr)) (fun i _ _ => N - (intOf i).toNat)
      case atStart => exact ⟨0, rfl, by omega, net_congr HI.out (fun x y _ _ => mix_start.symm), HO⟩
      case round =>
        clear HI HO c0
        obtain ⟨a, rfl, ha, HI, HO⟩ := hrel
        have c0 := HI.out.2.1
        by_cases hla : a < N
        · have ha12 : a < 12 := by omega
          go_wp2
          go_loopw [4] (fun i wr => ∃ b : Nat, i = .int .i64 b ∧ b ≤ N ∧ Hid (NetAt wr nb N (mixF v E a b)) ∧ Hid (Only nb w wr)) (fun i _ => N - (intOf i).toNat)
          case atStart => exact ⟨0, rfl, by omega, HI, HO⟩
          case round =>
            clear HI HO c0
            obtain ⟨b, rfl, hb, HI, HO⟩ := hrel
            have c0 := HI.out.2.1
            by_cases hlb : b < N
            · have hb12 : b < 12 := by omega
              have c1 : wr.cell? ⟨nb, 1 + a * 12 + v, none⟩ = some (.int .i64 (E a v)) := by rw [HI.out.2.2.2 a v hla hlv, mix_col HLv.out hlv]
              have c2 : wr.cell? ⟨nb, 1 + v * 12 + b, none⟩ = some (.int .i64 (E v b)) := by rw [HI.out.2.2.2 v b hlv hlb, mix_row HLv.out hlv]
              have l1 := HLv.out.2 a v hla hlv
              have l2 := HLv.out.2 v b hlv hlb
              by_cases e1 : E a v = -1
              · have b1 : (E a v != -1) = false := by simp [e1]
                have HX : Hid (E a b = gF v E a b) := by show _ = _; unfold gF; rw [if_neg (by omega)]
                clear e1 c2
                go_wp2
                go_roundw
                case rel => exact ⟨b + 1, by go_num, by omega, net_congr HI.out (fun x y _ _ => mix_same HX.out x y), HO⟩
                case measure => simp [intOf]; omega
              · have b1 : (E a v != -1) = true := by simp [e1]
                by_cases e2 : E v b = -1
                · have b2 : (E v b != -1) = false := by simp [e2]
                  have HX : Hid (E a b = gF v E a b) := by show _ = _; unfold gF; rw [if_neg (by omega)]
                  clear e1 e2
                  go_wp2
                  go_roundw
                  case rel => exact ⟨b + 1, by go_num, by omega, net_congr HI.out (fun x y _ _ => mix_same HX.out x y), HO⟩
                  case measure => simp [intOf]; omega
                · have b2 : (E v b != -1) = true := by simp [e2]
                  have HX : Hid (shortS (mixF v E a b a b) (E a v + E v b) = gF v E a b) := by show _ = _; rw [mix_at]; unfold gF; rw [if_pos ⟨e1, e2⟩]
                  have hcon := fun W hW => shorten_any nb N a b (mixF v E a b) (E a v + E v b) W hW hla hlb
                  have HC := hide' hcon
                  clear hcon e1 e2
                  go_wp2_with fail
                  have ia : (0 : Int) ≤ (a : Int) := by omega
                  have ib : (0 : Int) ≤ (b : Int) := by omega
                  have iv : (0 : Int) ≤ (v : Int) := by omega
                  have ja : (a : Int) < 12 := by omega
                  have jb : (b : Int) < 12 := by omega
                  have jv : (v : Int) < 12 := by omega
                  have hw : IntKind.i64.wrap (E a v + E v b) = E a v + E v b := i64_in _ (by omega)
                  go_region_held3 (fun w' => w'.cell? ⟨nb, 1 + a * 12 + v, none⟩ = some (.int .i64 (E a v)) ∧ w'.cell? ⟨nb, 1 + v * 12 + b, none⟩ = some (.int .i64 (E v b))) (go_keep)
                    (first
                      | (go_at_call 115; refine (HC.out _ (by exact net_other HI.out rfl)).mono ?_; rintro e w2 ⟨rfl, hn2, ho2⟩; have hn3 := net_congr hn2 (mix_next' HX.out); have k1 := (hn3.2.2.2 a v hla hlv).trans (mix_col' HLv.out hlv); have k2 := (hn3.2.2.2 v b hlv hlb).trans (mix_row' HLv.out hlv); have HN3 := hide' hn3; have HO3 := hide' ho2; clear hn2 hn3 ho2))
                  clear k1 k2 c1 c2 c0 hw
                  go_wp2
                  go_roundw
                  case rel => exact ⟨b + 1, by go_num, by omega, HN3, HO.out.trans ⟨HO3.out.os, HO3.out.tape, HO3.out.output, HO3.out.size, HO3.out.block⟩⟩
                  case measure => simp [intOf]; omega
            · go_wp2
              go_roundw
              case rel => exact ⟨a + 1, by go_num, by omega, net_congr HI.out (fun x y _ hy => by rw [show b = N by omega]; exact mix_row_end hy), HO⟩
              case measure => simp [intOf]; omega
        · go_wp2
          go_roundw
          case rel => exact ⟨v + 1, by go_num, by omega, net_congr HI.out (fun x y hx _ => by rw [HE.out, show a = N by omega]; exact mix_end hx), HO⟩
          case measure => simp [intOf]; omega
    · have hvN : v = N := by omega
      subst hvN
      go_wp2
      go_end0
      exact ⟨rfl, HI.out, HO.out⟩
end Go.Proofs.YtebinaopncclgaaGreatDoor
