/- Walks: the ways between the sites of an instance that may be. -/
import Derived.Test.YtebinaopncclgabNet
import Derived.Deep.RegionHeld3
import Derived.Test.YtebinaopncclgabBent
import Derived.Test.YtebinaopncclgabTextI
import Derived.Test.YtebinaopncclgabTabl
namespace Go.Proofs.Ytebinaopncclgab
open Go.RowKit

def gF (v : Nat) (F : Nat → Nat → Int) (x y : Nat) : Int := if F x v ≠ -1 ∧ F v y ≠ -1 then shortS (F x y) (F x v + F v y) else F x y
def mixF (v : Nat) (F : Nat → Nat → Int) (a b : Nat) : Nat → Nat → Int := fun x y => if x < a ∨ (x = a ∧ y < b) then gF v F x y else F x y
/- what the lengths may be -/
def Lens (N : Nat) (M : Int) (F : Nat → Nat → Int) : Prop := (∀ x, x < N → F x x = 0) ∧ ∀ x y, x < N → y < N → -1 ≤ F x y ∧ F x y ≤ M
theorem shortS_self {x v : Int} (hx : x ≠ -1) (h : x ≤ v) : shortS x v = x := by unfold shortS; rw [if_neg (by omega)]
theorem gF_col {N v x : Nat} {M : Int} {F : Nat → Nat → Int} (h : Lens N M F) (hv : v < N) : gF v F x v = F x v := by
  unfold gF
  split
  · rename_i e; rw [h.1 v hv]; exact shortS_self e.1 (by omega)
  · rfl
theorem gF_row {N v y : Nat} {M : Int} {F : Nat → Nat → Int} (h : Lens N M F) (hv : v < N) : gF v F v y = F v y := by
  unfold gF
  split
  · rename_i e; rw [h.1 v hv]; exact shortS_self e.2 (by omega)
  · rfl
theorem mix_col {N v x a b : Nat} {M : Int} {F : Nat → Nat → Int} (h : Lens N M F) (hv : v < N) : mixF v F a b x v = F x v := by
  unfold mixF; split
  · exact gF_col h hv
  · rfl
theorem mix_row {N v y a b : Nat} {M : Int} {F : Nat → Nat → Int} (h : Lens N M F) (hv : v < N) : mixF v F a b v y = F v y := by
  unfold mixF; split
  · exact gF_row h hv
  · rfl
theorem mix_at (v a b : Nat) (F : Nat → Nat → Int) : mixF v F a b a b = F a b := by unfold mixF; rw [if_neg (by omega)]
theorem mix_next {v a b : Nat} {F : Nat → Nat → Int} {u : Int} (hu : u = gF v F a b) (x y : Nat) : upd (mixF v F a b) a b u x y = mixF v F a (b + 1) x y := by
  unfold upd mixF
  by_cases e : x = a ∧ y = b
  · rw [if_pos e, if_pos (by omega), e.1, e.2, hu]
  · rw [if_neg e]
    by_cases h : x < a ∨ (x = a ∧ y < b)
    · rw [if_pos h, if_pos (by omega)]
    · rw [if_neg h, if_neg (by omega)]
theorem mix_same {v a b : Nat} {F : Nat → Nat → Int} (hu : F a b = gF v F a b) (x y : Nat) : mixF v F a b x y = mixF v F a (b + 1) x y := by
  rw [← mix_next hu]; unfold upd; split
  · rename_i e; rw [e.1, e.2, mix_at]
  · rfl
theorem mix_next' {v a b N : Nat} {F : Nat → Nat → Int} {u : Int} (hu : u = gF v F a b) : ∀ x y, x < N → y < N → upd (mixF v F a b) a b u x y = mixF v F a (b + 1) x y := fun x y _ _ => mix_next hu x y
theorem mix_col' {N v x a b : Nat} {M : Int} {F : Nat → Nat → Int} (h : Lens N M F) (hv : v < N) : some (Value.int .i64 (mixF v F a b x v)) = some (.int .i64 (F x v)) := by rw [mix_col h hv]
theorem mix_row' {N v y a b : Nat} {M : Int} {F : Nat → Nat → Int} (h : Lens N M F) (hv : v < N) : some (Value.int .i64 (mixF v F a b v y)) = some (.int .i64 (F v y)) := by rw [mix_row h hv]
theorem mix_row_end {v a N : Nat} {F : Nat → Nat → Int} {x y : Nat} (hy : y < N) : mixF v F a N x y = mixF v F (a + 1) 0 x y := by
  unfold mixF
  by_cases h : x < a ∨ (x = a ∧ y < N)
  · rw [if_pos h, if_pos (by omega)]
  · rw [if_neg h, if_neg (by omega)]
theorem mix_end {v N : Nat} {F : Nat → Nat → Int} {x y : Nat} (hx : x < N) : mixF v F N 0 x y = gF v F x y := by
  unfold mixF; rw [if_pos (by omega)]
theorem mix_start {v : Nat} {F : Nat → Nat → Int} {x y : Nat} : mixF v F 0 0 x y = F x y := by
  unfold mixF; rw [if_neg (by omega)]
theorem gF_lens {N v : Nat} {M : Int} {F : Nat → Nat → Int} (h : Lens N M F) (hM : 0 ≤ M) (hv : v < N) : Lens N (2 * M) (gF v F) := by
  refine ⟨fun x hx => ?_, fun x y hx hy => ?_⟩
  · unfold gF
    have h0 := h.1 x hx
    split
    · rename_i e
      have a := h.2 x v hx hv; have b := h.2 v x hv hx
      rw [h0]; exact shortS_self (by omega) (by omega)
    · exact h0
  · have c := h.2 x y hx hy
    unfold gF
    split
    · rename_i e
      have a := h.2 x v hx hv; have b := h.2 v y hv hy
      unfold shortS; split <;> omega
    · omega
def fwF (F : Nat → Nat → Int) : Nat → Nat → Nat → Int
  | 0 => F
  | v + 1 => gF v (fwF F v)
theorem fw_lens {N : Nat} {M : Int} {F : Nat → Nat → Int} (h : Lens N M F) (hM : 0 ≤ M) : ∀ v, v ≤ N → Lens N (M * 2 ^ v) (fwF F v) := by
  intro v
  induction v with
  | zero => intro _; show Lens N (M * 2 ^ 0) F; simpa using h
  | succ v ih =>
    intro hv
    have := gF_lens (ih (by omega)) (Int.mul_nonneg hM (Int.pow_nonneg (by decide))) (show v < N by omega)
    rw [Int.pow_succ]
    have e : M * (2 ^ v * 2) = 2 * (M * 2 ^ v) := by rw [← Int.mul_assoc, Int.mul_comm]
    rw [e]; exact this
theorem fw_lens12 {N : Nat} {F : Nat → Nat → Int} (h : Lens N 10000 F) (hN : N ≤ 12) {v : Nat} (hv : v ≤ N) : Lens N 40960000 (fwF F v) := by
  have h1 := fw_lens h (by omega) v hv
  refine ⟨h1.1, fun x y hx hy => ⟨(h1.2 x y hx hy).1, Int.le_trans (h1.2 x y hx hy).2 ?_⟩⟩
  have : (2 : Int) ^ v ≤ 4096 := by
    have : v = 0 ∨ v = 1 ∨ v = 2 ∨ v = 3 ∨ v = 4 ∨ v = 5 ∨ v = 6 ∨ v = 7 ∨ v = 8 ∨ v = 9 ∨ v = 10 ∨ v = 11 ∨ v = 12 := by omega
    rcases this with rfl | rfl | rfl | rfl | rfl | rfl | rfl | rfl | rfl | rfl | rfl | rfl | rfl <;> decide
  omega
end Go.Proofs.Ytebinaopncclgab
namespace Go.Proofs.Ytebinaopncclgab
open Go.RowKit Go.IntWalk

set_option maxRecDepth 100000 in
set_option maxHeartbeats 2000000 in
theorem join_any (nb N : Nat) (F : Nat → Nat → Int) (w : World) (h : NetAt w nb N F) (hL : Lens N 10000 F) :
    Calls Try.prog 26 #[.pointer (some ⟨nb, 0, none⟩)] w fun e w' => e = .returned (.tuple #[]) ∧ NetAt w' nb N (fwF F N) ∧ Only nb w w' := by
  have hN := h.2.2.1
  have H := hide' h
  have HL := hide' hL
  clear h hL
  go_enter Try.func26, Try.ntmps26
  go_wp2
  go_loopw [2, 3, 4] (fun i _ _ wr => ∃ v : Nat, i = .int .i64 v ∧ v ≤ N ∧ Hid (NetAt wr nb N (fwF F v)) ∧ Hid (Only nb w wr)) (fun i _ _ _ => N - (intOf i).toNat)
  case atStart => exact ⟨0, rfl, by omega, H, Only.refl _ _⟩
  case round =>
    clear H
    obtain ⟨v, rfl, hv, HI, HO⟩ := hrel
    have c0 := HI.out.2.1
    by_cases hlv : v < N
    · have HLv : Hid (Lens N 40960000 (fwF F v)) := fw_lens12 HL.out hN hv
      have HE : Hid (fwF F (v + 1) = gF v (fwF F v)) := rfl
      generalize fwF F v = E at *
      have hv12 : v < 12 := by omega
      go_wp2
      go_loopw [3, 4] (fun i _ wr => ∃ a : Nat, i = .int .i64 a ∧ a ≤ N ∧ Hid (NetAt wr nb N (mixF v E a 0)) ∧ Hid (Only nb w wr)) (fun i _ _ => N - (intOf i).toNat)
      case atStart => exact ⟨0, rfl, by omega, net_congr HI.out (fun x y _ _ => mix_start.symm), HO⟩
      case round =>
        clear HI HO c0
        obtain ⟨a, rfl, ha, HI, HO⟩ := hrel
        have c0 := HI.out.2.1
        by_cases hla : a < N
        · have ha12 : a < 12 := by omega
          go_wp2
          go_loopw [4] (fun i wr => ∃ b : Nat, i = .int .i64 b ∧ b ≤ N ∧ Hid (NetAt wr nb N (mixF v E a b)) ∧ Hid (Only nb w wr)) (fun i _ => N - (intOf i).toNat)
          case atStart => exact ⟨0, rfl, by omega, HI, HO⟩
          case round =>
            clear HI HO c0
            obtain ⟨b, rfl, hb, HI, HO⟩ := hrel
            have c0 := HI.out.2.1
            by_cases hlb : b < N
            · have hb12 : b < 12 := by omega
              have c1 : wr.cell? ⟨nb, 1 + a * 12 + v, none⟩ = some (.int .i64 (E a v)) := by rw [HI.out.2.2.2 a v hla hlv, mix_col HLv.out hlv]
              have c2 : wr.cell? ⟨nb, 1 + v * 12 + b, none⟩ = some (.int .i64 (E v b)) := by rw [HI.out.2.2.2 v b hlv hlb, mix_row HLv.out hlv]
              have l1 := HLv.out.2 a v hla hlv
              have l2 := HLv.out.2 v b hlv hlb
              by_cases e1 : E a v = -1
              · have b1 : (E a v != -1) = false := by simp [e1]
                have HX : Hid (E a b = gF v E a b) := by show _ = _; unfold gF; rw [if_neg (by omega)]
                clear e1 c2
                go_wp2
                go_roundw
                case rel => exact ⟨b + 1, by go_num, by omega, net_congr HI.out (fun x y _ _ => mix_same HX.out x y), HO⟩
                case measure => simp [intOf]; omega
              · have b1 : (E a v != -1) = true := by simp [e1]
                by_cases e2 : E v b = -1
                · have b2 : (E v b != -1) = false := by simp [e2]
                  have HX : Hid (E a b = gF v E a b) := by show _ = _; unfold gF; rw [if_neg (by omega)]
                  clear e1 e2
                  go_wp2
                  go_roundw
                  case rel => exact ⟨b + 1, by go_num, by omega, net_congr HI.out (fun x y _ _ => mix_same HX.out x y), HO⟩
                  case measure => simp [intOf]; omega
                · have b2 : (E v b != -1) = true := by simp [e2]
                  have HX : Hid (shortS (mixF v E a b a b) (E a v + E v b) = gF v E a b) := by show _ = _; rw [mix_at]; unfold gF; rw [if_pos ⟨e1, e2⟩]
                  have hcon := fun W hW => shorten_any nb N a b (mixF v E a b) (E a v + E v b) W hW hla hlb
                  have HC := hide' hcon
                  clear hcon e1 e2
                  go_wp2_with fail
                  have ia : (0 : Int) ≤ (a : Int) := by omega
                  have ib : (0 : Int) ≤ (b : Int) := by omega
                  have iv : (0 : Int) ≤ (v : Int) := by omega
                  have ja : (a : Int) < 12 := by omega
                  have jb : (b : Int) < 12 := by omega
                  have jv : (v : Int) < 12 := by omega
                  have hw : IntKind.i64.wrap (E a v + E v b) = E a v + E v b := i64_in _ (by omega)
                  go_region_held3 (fun w' => w'.cell? ⟨nb, 1 + a * 12 + v, none⟩ = some (.int .i64 (E a v)) ∧ w'.cell? ⟨nb, 1 + v * 12 + b, none⟩ = some (.int .i64 (E v b))) (go_keep)
                    (first
                      | (go_at_call 25; refine (HC.out _ (by exact net_other HI.out rfl)).mono ?_; rintro e w2 ⟨rfl, hn2, ho2⟩; have hn3 := net_congr hn2 (mix_next' HX.out); have k1 := (hn3.2.2.2 a v hla hlv).trans (mix_col' HLv.out hlv); have k2 := (hn3.2.2.2 v b hlv hlb).trans (mix_row' HLv.out hlv); have HN3 := hide' hn3; have HO3 := hide' ho2; clear hn2 hn3 ho2))
                  clear k1 k2 c1 c2 c0 hw
                  go_wp2
                  go_roundw
                  case rel => exact ⟨b + 1, by go_num, by omega, HN3, HO.out.trans ⟨HO3.out.os, HO3.out.tape, HO3.out.output, HO3.out.size, HO3.out.block⟩⟩
                  case measure => simp [intOf]; omega
            · go_wp2
              go_roundw
              case rel => exact ⟨a + 1, by go_num, by omega, net_congr HI.out (fun x y _ hy => by rw [show b = N by omega]; exact mix_row_end hy), HO⟩
              case measure => simp [intOf]; omega
        · go_wp2
          go_roundw
          case rel => exact ⟨v + 1, by go_num, by omega, net_congr HI.out (fun x y hx _ => by rw [HE.out, show a = N by omega]; exact mix_end hx), HO⟩
          case measure => simp [intOf]; omega
    · have hvN : v = N := by omega
      subst hvN
      go_wp2
      go_end0
      exact ⟨rfl, HI.out, HO.out⟩
end Go.Proofs.Ytebinaopncclgab
namespace Go.Proofs.Ytebinaopncclgab
open Go.RowKit Go.IntWalk

set_option maxRecDepth 100000 in
set_option maxHeartbeats 2000000 in
theorem fault_ok (B B' : Nat) (r : Rd) (vs vr : Value) (w : World) (hn : RdOk r) (hs : w.ownsRow B 38 5 vs r.stops.length (ints r.stops.flatten)) (hr : w.ownsRow B' 40 3 vr r.roads.length (ints r.roads.flatten)) :
    Calls Try.prog 23 #[inst r vs vr] w fun e w' => e = .returned (.int .i64 0) ∧ Below w.heap.size w w' := by
  have hns := hn.nstops
  have hnr := hn.nroads
  have hhd := hn.head
  obtain ⟨aos, caps, rfl, has, hsn⟩ := own_val hs
  obtain ⟨aor, capr, rfl, har, hrn⟩ := own_val hr
  have HS := hide hs
  have HR := hide hr
  have HN := hide hn
  have HAS := hide has
  have HAR := hide har
  have HSN := hide hsn
  have HRN := hide hrn
  clear hs hr hn has hsn har hrn
  unfold inst
  go_enter Try.func23, Try.ntmps23
  go_wp2_with fail
  refine (headFits_any _ _ _ _ _ _ _ _).mono ?_
  rintro e1 w1 ⟨rfl, hb1⟩
  rw [hhd]
  obtain ⟨hw1, hz1, hbox⟩ := box_facts (w := w) hb1 rfl rfl rfl rfl
  have HW1 := hide hw1
  have HBX : Hid (w1.cell? ⟨w.heap.size, 3, none⟩ = some (.int .i64 r.nodes) ∧ w1.cell? ⟨w.heap.size, 5, none⟩ = some (.slice aos r.stops.length caps) ∧ w1.cell? ⟨w.heap.size, 6, none⟩ = some (.slice aor r.roads.length capr)) := ⟨hbox 3, hbox 5, hbox 6⟩
  clear hw1 hb1 hbox hhd
  go_wp2_with fail
  go_loopw [3] (fun i wr => ∃ k : Nat, i = .int .i64 k ∧ k ≤ r.stops.length ∧ Hid (Below w1.heap.size w1 wr)) (fun i _ => r.stops.length - (intOf i).toNat)
  case atStart => exact ⟨0, rfl, by omega, Below.refl _ _⟩
  case round =>
    obtain ⟨k, rfl, hk, HB⟩ := hrel
    have hbs := HB.out.size
    have d3 : wr.cell? ⟨w.heap.size, 3, none⟩ = some (.int .i64 r.nodes) := (HB.out.cell (by exact hz1)).trans HBX.out.1
    have d5 : wr.cell? ⟨w.heap.size, 5, none⟩ = some (.slice aos r.stops.length caps) := (HB.out.cell (by exact hz1)).trans HBX.out.2.1
    by_cases hlt : k < r.stops.length
    · obtain ⟨g, rfl, hgl⟩ := some_of HAS.out HSN.out (by omega)
      obtain ⟨a, b, c, d, e, hab, hok⟩ := HN.out.stops _ (List.getElem_mem hlt)
      have hcl : ∀ j z, j < 5 → r.stops[k][j]? = some z → wr.cell? ⟨g, k * 5 + j, none⟩ = some (.int .i64 z) := by
        intro j z hj hz
        rw [HB.out.cell (p := ⟨g, k * 5 + j, none⟩) (by show g < _; omega), HW1.out.cell (by exact hgl), HS.out.cellAt (k * 5 + j) (by omega)]
        exact flat_ints (fun s hs => (HN.out.nice.stops s hs).1) hlt hj hz
      rw [hab] at hcl
      have x0 : wr.cell? ⟨g, k * 5, none⟩ = some (.int .i64 a) := hcl 0 a (by omega) rfl
      have x1 : wr.cell? ⟨g, k * 5 + 1, none⟩ = some (.int .i64 b) := hcl 1 b (by omega) rfl
      have x2 : wr.cell? ⟨g, k * 5 + 2, none⟩ = some (.int .i64 c) := hcl 2 c (by omega) rfl
      have x3 : wr.cell? ⟨g, k * 5 + 3, none⟩ = some (.int .i64 d) := hcl 3 d (by omega) rfl
      have x4 : wr.cell? ⟨g, k * 5 + 4, none⟩ = some (.int .i64 e) := hcl 4 e (by omega) rfl
      clear hcl hab
      have ik : (0 : Int) ≤ (k : Int) := by omega
      have jk : (k : Int) < (r.stops.length : Int) := by omega
      have hgw : g < wr.heap.size := by omega
      have hxw : w.heap.size < wr.heap.size := by omega
      go_wp2_with fail
      go_region_held3 (fun w' => w'.cell? ⟨w.heap.size, 3, none⟩ = some (.int .i64 r.nodes) ∧ w'.cell? ⟨w.heap.size, 5, none⟩ = some (.slice (some ⟨g, 0, none⟩) r.stops.length caps) ∧ w'.cell? ⟨g, k * 5, none⟩ = some (.int .i64 a) ∧ w'.cell? ⟨g, k * 5 + 1, none⟩ = some (.int .i64 b) ∧ w'.cell? ⟨g, k * 5 + 2, none⟩ = some (.int .i64 c) ∧ w'.cell? ⟨g, k * 5 + 3, none⟩ = some (.int .i64 d) ∧ w'.cell? ⟨g, k * 5 + 4, none⟩ = some (.int .i64 e)) (go_keep)
        (first
          | (go_at_call 40; refine (stopFits_any _ _ _ _ _ _ _).mono ?_; rintro e2 w2 ⟨rfl, hb2⟩; have hw2 : Below wr.heap.size wr w2 := ⟨hb2.os, hb2.tape, hb2.output, hb2.size, hb2.block⟩; have k3 := (hw2.cell (p := ⟨w.heap.size, 3, none⟩) (by exact hxw)).trans d3; have k5 := (hw2.cell (p := ⟨w.heap.size, 5, none⟩) (by exact hxw)).trans d5; have m0 := (hw2.cell (p := ⟨g, k * 5, none⟩) (by exact hgw)).trans x0; have m1 := (hw2.cell (p := ⟨g, k * 5 + 1, none⟩) (by exact hgw)).trans x1; have m2 := (hw2.cell (p := ⟨g, k * 5 + 2, none⟩) (by exact hgw)).trans x2; have m3 := (hw2.cell (p := ⟨g, k * 5 + 3, none⟩) (by exact hgw)).trans x3; have m4 := (hw2.cell (p := ⟨g, k * 5 + 4, none⟩) (by exact hgw)).trans x4; have HW2 := hide hw2; clear hw2 hb2))
      clear x0 x1 x2 x3 x4 k3 k5 m0 m1 m2 m3 m4 d3 d5
      go_wp2
      go_roundw
      case rel => exact ⟨k + 1, by go_num, by omega, HB.out.trans (HW2.out.mono hbs)⟩
      case measure => simp [intOf]; omega
    · go_wp2_with fail
      go_loopw [4] (fun i wx => ∃ p : Nat, i = .int .i64 p ∧ p ≤ r.roads.length ∧ Hid (Below w1.heap.size w1 wx)) (fun i _ => r.roads.length - (intOf i).toNat)
      case atStart => exact ⟨0, rfl, by omega, HB⟩
      case round =>
        clear HB hbs d3 d5
        obtain ⟨p, rfl, hp, HB⟩ := hrel
        have hbs := HB.out.size
        have d3 : wr.cell? ⟨w.heap.size, 3, none⟩ = some (.int .i64 r.nodes) := (HB.out.cell (by exact hz1)).trans HBX.out.1
        have d6 : wr.cell? ⟨w.heap.size, 6, none⟩ = some (.slice aor r.roads.length capr) := (HB.out.cell (by exact hz1)).trans HBX.out.2.2
        by_cases hlp : p < r.roads.length
        · obtain ⟨g, rfl, hgl⟩ := some_of HAR.out HRN.out (by omega)
          obtain ⟨a, b, c, hab, hok⟩ := HN.out.roads _ (List.getElem_mem hlp)
          have hcl : ∀ j z, j < 3 → r.roads[p][j]? = some z → wr.cell? ⟨g, p * 3 + j, none⟩ = some (.int .i64 z) := by
            intro j z hj hz
            rw [HB.out.cell (p := ⟨g, p * 3 + j, none⟩) (by show g < _; omega), HW1.out.cell (by exact hgl), HR.out.cellAt (p * 3 + j) (by omega)]
            exact flat_ints (fun s hs => (HN.out.nice.roads s hs).1) hlp hj hz
          rw [hab] at hcl
          have x0 : wr.cell? ⟨g, p * 3, none⟩ = some (.int .i64 a) := hcl 0 a (by omega) rfl
          have x1 : wr.cell? ⟨g, p * 3 + 1, none⟩ = some (.int .i64 b) := hcl 1 b (by omega) rfl
          have x2 : wr.cell? ⟨g, p * 3 + 2, none⟩ = some (.int .i64 c) := hcl 2 c (by omega) rfl
          clear hcl hab
          have ik : (0 : Int) ≤ (p : Int) := by omega
          have jk : (p : Int) < (r.roads.length : Int) := by omega
          have hgw : g < wr.heap.size := by omega
          have hxw : w.heap.size < wr.heap.size := by omega
          go_wp2_with fail
          go_region_held3 (fun w' => w'.cell? ⟨w.heap.size, 3, none⟩ = some (.int .i64 r.nodes) ∧ w'.cell? ⟨w.heap.size, 6, none⟩ = some (.slice (some ⟨g, 0, none⟩) r.roads.length capr) ∧ w'.cell? ⟨g, p * 3, none⟩ = some (.int .i64 a) ∧ w'.cell? ⟨g, p * 3 + 1, none⟩ = some (.int .i64 b) ∧ w'.cell? ⟨g, p * 3 + 2, none⟩ = some (.int .i64 c)) (go_keep)
            (first
              | (go_at_call 41; refine (roadFits_any _ _ _ _ _).mono ?_; rintro e2 w2 ⟨rfl, hb2⟩; have hw2 : Below wr.heap.size wr w2 := ⟨hb2.os, hb2.tape, hb2.output, hb2.size, hb2.block⟩; have k3 := (hw2.cell (p := ⟨w.heap.size, 3, none⟩) (by exact hxw)).trans d3; have k6 := (hw2.cell (p := ⟨w.heap.size, 6, none⟩) (by exact hxw)).trans d6; have m0 := (hw2.cell (p := ⟨g, p * 3, none⟩) (by exact hgw)).trans x0; have m1 := (hw2.cell (p := ⟨g, p * 3 + 1, none⟩) (by exact hgw)).trans x1; have m2 := (hw2.cell (p := ⟨g, p * 3 + 2, none⟩) (by exact hgw)).trans x2; have HW2 := hide hw2; clear hw2 hb2))
          clear x0 x1 x2 k3 k6 m0 m1 m2 d3 d6
          go_wp2
          go_roundw
          case rel => exact ⟨p + 1, by go_num, by omega, HB.out.trans (HW2.out.mono hbs)⟩
          case measure => simp [intOf]; omega
        · go_wp2
          go_ret
          exact ⟨rfl, HW1.out.trans (HB.out.mono (by omega))⟩
end Go.Proofs.Ytebinaopncclgab
namespace Go.Proofs.Ytebinaopncclgab
open Go.RowKit Go.IntWalk

def roadF (F : Nat → Nat → Int) (s : List Int) : Nat → Nat → Int := upd F (s.getD 0 0).toNat (s.getD 1 0).toNat (shortS (F (s.getD 0 0).toNat (s.getD 1 0).toNat) (s.getD 2 0))
def roadsF (rs : List (List Int)) : Nat → Nat → Int := rs.foldl roadF diagS
def wayF (r : Rd) : Nat → Nat → Int := fwF (roadsF r.roads) r.nodes.toNat
def siteN (r : Rd) (i : Nat) : Nat := ((sites r).getD i 0).toNat

def netZ : Array Value := Array.replicate 145 (.int .i64 0)
theorem zero_net (W : World) : (zeroValue 70).run Try.prog W = .ok (.agg netZ) W := by kernel_rfl
theorem netZ_ne : ¬ netZ = #[] := by
  intro h; have := congrArg Array.size h; simp [netZ] at this
theorem netZ_at {o : Nat} (h : o < 145) : netZ[o]? = some (.int .i64 0) := by simp [netZ, h]

theorem net_new {w : World} {N : Nat} (hN : N ≤ 12) {x : Int} (hx : x = N) : NetAt (w.alloc (.cells (netZ.setIfInBounds 0 (.int .i64 x)) 70)) w.heap.size N (fun _ _ => 0) := by
  have hh := heap_alloc_new w (.cells (netZ.setIfInBounds 0 (.int .i64 x)) 70)
  refine ⟨⟨_, hh⟩, ?_, hN, fun a b ha hb => ?_⟩
  · rw [cell_of_row _ _ 0 _ _ _ hh, hx]; simp [netZ]
  · rw [cell_of_row _ _ (1 + a * 12 + b) _ _ _ hh, Array.getElem?_setIfInBounds, if_neg (by omega)]; exact netZ_at (by omega)
theorem diag_lens (N : Nat) : Lens N 10000 diagS := by
  refine ⟨fun x _ => by simp [diagS], fun x y _ _ => ?_⟩
  unfold diagS; split <;> omega
theorem road_lens {N : Nat} {F : Nat → Nat → Int} {a b c : Int} (h : Lens N 10000 F) (ha : 0 ≤ a ∧ a < N) (hb : 0 ≤ b ∧ b < N) (hc : 0 ≤ c ∧ c ≤ 10000) : Lens N 10000 (roadF F [a, b, c]) := by
  have e : ∀ x y, roadF F [a, b, c] x y = if x = a.toNat ∧ y = b.toNat then shortS (F a.toNat b.toNat) c else F x y := fun x y => rfl
  have hab := h.2 a.toNat b.toNat (by omega) (by omega)
  refine ⟨fun x hx => ?_, fun x y hx hy => ?_⟩
  · rw [e]; split
    · rename_i q
      have q1 := q.1; have q2 := q.2
      have h0 := h.1 x hx
      rw [← q1, ← q2, h0]; exact shortS_self (by omega) (by omega)
    · exact h.1 x hx
  · rw [e]; split
    · unfold shortS; split <;> omega
    · exact h.2 x y hx hy
theorem roads_lens {N : Nat} (rs : List (List Int)) (hrs : ∀ s ∈ rs, ∃ a b c, s = [a, b, c] ∧ roadOk a b c (N : Int) = true) : ∀ F, Lens N 10000 F → Lens N 10000 (rs.foldl roadF F) := by
  induction rs with
  | nil => intro F h; exact h
  | cons s t ih =>
    intro F h
    obtain ⟨a, b, c, rfl, hk⟩ := hrs s (by simp)
    have hk := roadOk_iff.1 hk
    exact ih (fun s hs => hrs s (by simp [hs])) _ (road_lens h ⟨by omega, by omega⟩ ⟨by omega, by omega⟩ ⟨by omega, by omega⟩)
theorem roadsF_snoc {rs : List (List Int)} {k : Nat} (h : k < rs.length) : roadsF (rs.take (k + 1)) = roadF (roadsF (rs.take k)) rs[k] := by
  unfold roadsF; rw [List.take_succ_eq_append_getElem h, List.foldl_append]; rfl
theorem sites_range {r : Rd} (h : ∀ z ∈ sites r, 0 ≤ z) : sites r = (List.range (r.stops.length + 1)).map fun i => (siteN r i : Int) := by
  apply List.ext_getElem
  · simp [sites_length]
  · intro i h1 h2
    simp only [List.getElem_map, List.getElem_range, siteN]
    rw [show (sites r).getD i 0 = (sites r)[i] by simp [h1]]
    have := h _ (List.getElem_mem h1); omega
theorem sites_ok {r : Rd} (h : RdOk r) : ∀ z ∈ sites r, 0 ≤ z ∧ z < r.nodes := by
  have hh := headOk_iff.1 h.head
  intro z hz
  simp only [sites, List.mem_cons, List.mem_map] at hz
  rcases hz with rfl | ⟨s, hs, rfl⟩
  · omega
  · obtain ⟨a, b, c, d, e, rfl, hk⟩ := h.stops s hs
    have hk := stopOk_iff.1 hk
    simp; omega
theorem siteN_lt {r : Rd} (h : RdOk r) {N : Nat} (hN : r.nodes = N) {i : Nat} (hi : i < r.stops.length + 1) : siteN r i < N := by
  have hl : i < (sites r).length := by rw [sites_length]; exact hi
  have := sites_ok h _ (List.getElem_mem hl)
  unfold siteN; rw [show (sites r).getD i 0 = (sites r)[i] by simp [hl]]; omega

set_option maxRecDepth 100000 in
set_option maxHeartbeats 2000000 in
theorem between_own (B B' : Nat) (r : Rd) (vs vr : Value) (w : World) (hn : RdOk r) (hs : w.ownsRow B 38 5 vs r.stops.length (ints r.stops.flatten)) (hr : w.ownsRow B' 40 3 vr r.roads.length (ints r.roads.flatten)) :
    Calls Try.prog 19 #[inst r vs vr] w fun e w' => ∃ v, e = .returned v ∧ GridO w' w.heap.size v (r.stops.length + 1) (fun i j => wayF r (siteN r i) (siteN r j)) ∧ Below w.heap.size w w' := by
  have hns := hn.nstops
  have hnr := hn.nroads
  have hhd := headOk_iff.1 hn.head
  obtain ⟨aos, caps, rfl, has, hsn⟩ := own_val hs
  obtain ⟨aor, capr, rfl, har, hrn⟩ := own_val hr
  have HS := hide hs
  have HR := hide hr
  have HN := hide hn
  have HAS := hide has
  have HAR := hide har
  have HSN := hide hsn
  have HRN := hide hrn
  have hcF := fun W hW => fault_ok B B' r (.slice aos r.stops.length caps) (.slice aor r.roads.length capr) W hn (own_below hs hW) (own_below hr hW)
  have HCF := hide hcF
  clear hs hr hn has hsn har hrn hcF
  unfold inst at *
  go_enter Try.func19, Try.ntmps19
  go_wp2_with fail
  refine (HCF.out _ (below1 w _)).mono ?_
  rintro e1 w1 ⟨rfl, hb1⟩
  obtain ⟨hw1, hz1, hbox⟩ := box_facts (w := w) hb1 rfl rfl rfl rfl
  have HW1 := hide hw1
  have HBX := hide hbox
  have d3 : w1.cell? ⟨w.heap.size, 3, none⟩ = some (.int .i64 r.nodes) := hbox 3
  clear hw1 hb1 hbox
  have hzv := zero_net
  have hzn := netZ_ne
  obtain ⟨N, hN⟩ : ∃ N : Nat, r.nodes = N := ⟨r.nodes.toNat, by omega⟩
  have hN12 : N ≤ 12 := by omega
  have HNN := hide hN
  clear hN
  go_wp2_with fail
  refine (clear_any _ N _ _ (net_new hN12 HNN.out)).mono ?_
  rintro e2 w2 ⟨rfl, hn2, ho2⟩
  have HB2 : Hid (Below w1.heap.size w1 w2) := (below1 w1 _).trans (ho2.below (Nat.le_refl _))
  have HN2 := hide hn2
  clear hn2 ho2 d3 hzv hzn
  go_wp2_with fail
  go_loopw [5] (fun i wr => ∃ k : Nat, i = .int .i64 k ∧ k ≤ r.roads.length ∧ Hid (NetAt wr w1.heap.size N (roadsF (r.roads.take k))) ∧ Hid (Below w1.heap.size w1 wr)) (fun i _ => r.roads.length - (intOf i).toNat)
  case atStart => exact ⟨0, rfl, by omega, HN2, HB2⟩
  case round =>
    clear HN2 HB2
    obtain ⟨k, rfl, hk, HI, HB⟩ := hrel
    have hbs := HB.out.size
    have d6 : wr.cell? ⟨w.heap.size, 6, none⟩ = some (.slice aor r.roads.length capr) := (HB.out.cell (by exact hz1)).trans (HBX.out 6)
    have hnl := net_lt HI.out
    by_cases hlt : k < r.roads.length
    · obtain ⟨g, rfl, hgl⟩ := some_of HAR.out HRN.out (by omega)
      obtain ⟨a, b, c, hab, hok⟩ := HN.out.roads _ (List.getElem_mem hlt)
      have hok' := roadOk_iff.1 hok
      have hcl : ∀ j z, j < 3 → r.roads[k][j]? = some z → wr.cell? ⟨g, k * 3 + j, none⟩ = some (.int .i64 z) := by
        intro j z hj hz
        rw [HB.out.cell (p := ⟨g, k * 3 + j, none⟩) (by show g < _; omega), HW1.out.cell (by exact hgl), HR.out.cellAt (k * 3 + j) (by omega)]
        exact flat_ints (fun s hs => (HN.out.nice.roads s hs).1) hlt hj hz
      have HT := roadsF_snoc hlt
      rw [hab] at hcl HT
      obtain ⟨an, rfl⟩ := Int.eq_ofNat_of_zero_le hok'.1.1
      obtain ⟨bn, rfl⟩ := Int.eq_ofNat_of_zero_le hok'.1.2.2.1
      have hnn := HNN.out
      have han : an < N := by omega
      have hbn : bn < N := by omega
      have x0 : wr.cell? ⟨g, k * 3, none⟩ = some (.int .i64 an) := hcl 0 an (by omega) rfl
      have x1 : wr.cell? ⟨g, k * 3 + 1, none⟩ = some (.int .i64 bn) := hcl 1 bn (by omega) rfl
      have x2 : wr.cell? ⟨g, k * 3 + 2, none⟩ = some (.int .i64 c) := hcl 2 c (by omega) rfl
      have HT' := hide HT
      clear hcl hab hok hok' HT hnn
      have hgw : g < wr.heap.size := by omega
      go_wp2_with fail
      refine (shorten_any w1.heap.size N an bn (roadsF (r.roads.take k)) c _ (net_other HI.out (Below.heap_alloc _ _ _ hnl)) han hbn).mono ?_
      rintro e3 w3 ⟨rfl, hn3, ho3⟩
      have HN3 : Hid (NetAt w3 w1.heap.size N (roadsF (r.roads.take (k + 1)))) := by show NetAt _ _ _ _; rw [HT'.out]; exact hn3
      have HB3 : Hid (Below w1.heap.size w1 w3) := (HB.out.alloc hbs _).trans (ho3.below (Nat.le_refl _))
      clear hn3 ho3 x0 x1 x2 d6
      go_wp2
      go_roundw
      case rel => exact ⟨k + 1, by go_num, by omega, HN3, HB3⟩
      case measure => simp [intOf]; omega
    · have hke : k = r.roads.length := by omega
      subst hke
      have HI' : Hid (NetAt wr w1.heap.size N (roadsF r.roads)) := by have := HI.out; rw [List.take_length] at this; exact this
      have HLen : Hid (Lens N 10000 (roadsF r.roads)) := roads_lens r.roads (by rw [← HNN.out]; exact HN.out.roads) _ (diag_lens N)
      go_wp2_with fail
      refine (join_any w1.heap.size N (roadsF r.roads) _ HI'.out HLen.out).mono ?_
      rintro e4 w4 ⟨rfl, hn4, ho4⟩
      have HB4 : Hid (Below w1.heap.size w1 w4) := HB.out.trans (ho4.below (Nat.le_refl _))
      have HN4 := hide hn4
      have hb4 := HB4.out.size
      have f0 : w4.cell? ⟨w.heap.size, 0, none⟩ = some (.int .i64 r.vans) := (HB4.out.cell (by exact hz1)).trans (HBX.out 0)
      have f1 : w4.cell? ⟨w.heap.size, 1, none⟩ = some (.int .i64 r.load) := (HB4.out.cell (by exact hz1)).trans (HBX.out 1)
      have f2 : w4.cell? ⟨w.heap.size, 2, none⟩ = some (.int .i64 r.close) := (HB4.out.cell (by exact hz1)).trans (HBX.out 2)
      have f3 : w4.cell? ⟨w.heap.size, 3, none⟩ = some (.int .i64 r.nodes) := (HB4.out.cell (by exact hz1)).trans (HBX.out 3)
      have f4 : w4.cell? ⟨w.heap.size, 4, none⟩ = some (.int .i64 r.home) := (HB4.out.cell (by exact hz1)).trans (HBX.out 4)
      have f5 : w4.cell? ⟨w.heap.size, 5, none⟩ = some (.slice aos r.stops.length caps) := (HB4.out.cell (by exact hz1)).trans (HBX.out 5)
      have f6 : w4.cell? ⟨w.heap.size, 6, none⟩ = some (.slice aor r.roads.length capr) := (HB4.out.cell (by exact hz1)).trans (HBX.out 6)
      have HWW : Hid (Below w.heap.size w w4) := HW1.out.trans (HB4.out.mono (by omega))
      clear hn4 ho4 HI HB hbs d6 HI'
      go_wp2_with fail
      refine (siteNodes_any B B' r (.slice aos r.stops.length caps) (.slice aor r.roads.length capr) w4 HN.out.nice (own_below HS.out HWW.out) (own_below HR.out HWW.out)).mono ?_
      rintro e5 w5 ⟨v5, rfl, ho5, hb5⟩
      obtain ⟨g5, c5, cur5, rfl, _, _, _⟩ := own_shape ho5 (by omega)
      have hss := ho5
      rw [sites_range (fun z hz => (sites_ok HN.out z hz).1)] at hss
      have HSS := hide hss
      have HN5 : Hid (NetAt w5 w1.heap.size N (fwF (roadsF r.roads) N)) := net_other HN4.out (hb5.block _ (net_lt HN4.out))
      have HW5 : Hid (Below w.heap.size w w5) := HWW.out.trans (hb5.mono HWW.out.size)
      clear ho5 hb5 hss f0 f1 f2 f3 f4 f5 f6
      go_wp2_with fail
      refine (table_own w1.heap.size N (r.stops.length + 1) g5 c5 _ (fwF (roadsF r.roads) N) (siteN r) w5 HN5.out (by omega) (by omega) (fun i hi => siteN_lt HN.out HNN.out hi) HSS.out).mono ?_
      rintro e6 w6 ⟨v6, rfl, hg6, hb6⟩
      have HG6 := hide hg6
      have HB6 := hide hb6
      obtain ⟨g7, _, rfl, _⟩ := hg6
      clear hb6
      go_wp2
      go_ret
      refine ⟨_, rfl, ?_, HW5.out.trans (HB6.out.mono HW5.out.size)⟩
      have e : wayF r = fwF (roadsF r.roads) N := by unfold wayF; rw [HNN.out]; rfl
      rw [e]; exact HG6.out.base HW5.out.size
theorem between_any (B B' : Nat) (r : Rd) (vs vr : Value) (w : World) (hn : RdOk r) (hs : w.ownsRow B 38 5 vs r.stops.length (ints r.stops.flatten)) (hr : w.ownsRow B' 40 3 vr r.roads.length (ints r.roads.flatten)) :
    Calls Try.prog 19 #[inst r vs vr] w fun e w' => ∃ v, e = .returned v ∧ Grid w' w.heap.size v (r.stops.length + 1) (fun i j => wayF r (siteN r i) (siteN r j)) ∧ Below w.heap.size w w' :=
  (between_own B B' r vs vr w hn hs hr).mono fun _ _ ⟨v, h1, h2, h3⟩ => ⟨v, h1, h2.grid, h3⟩
end Go.Proofs.Ytebinaopncclgab
