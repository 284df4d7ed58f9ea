/- Walks: the law. -/
import Derived.Test.YtebinaopncclgabGreatDoorParse
import Derived.Test.YtebinaopncclgabGreatDoorPlainG
import Derived.Test.YtebinaopncclgabGreatDoorBase
import Derived.Test.YtebinaopncclgabGreatDoorPlainD
import Derived.Test.YtebinaopncclgabGreatDoorFrame
import Derived.Laws.BytesArg
import Derived.Test.YtebinaopncclgabGreatDoorPlainE
import Derived.Test.YtebinaopncclgabGreatDoorPlainF
import Derived.Deep.RegionHeld3
import Derived.Test.YtebinaopncclgabGreatDoorPlainK
namespace Go.Proofs.YtebinaopncclgabGreatDoor
open Go.RowKit Go.IntWalk

/- a list of structs that came in: its cells, of whatever address -/
def Came (w : World) (ao : Option Addr) (n size : Nat) (S : Nat → Nat → Int) : Prop :=
  0 < n → ∃ b o, ao = some ⟨b, o, none⟩ ∧ b < w.heap.size ∧ ∀ i j, i < n → j < size → w.cell? ⟨b, o + i * size + j, none⟩ = some (.int .i64 (S i j)) ∧ -9223372036854775808 ≤ S i j ∧ S i j ≤ 9223372036854775807

/- the three boxes of the call: what came in, the result, the one that is made -/
def BnIs (w wr : World) (xs ys : Array Value) : Prop :=
  wr.heap[w.heap.size]? = some (.cells xs 28 (0, 0)) ∧ wr.heap[w.heap.size + 1]? = some (.cells zero7 28 (0, 0)) ∧ wr.heap[w.heap.size + 1 + 1]? = some (.cells ys 28 (0, 0)) ∧ Below w.heap.size w wr
theorem bn_size {w wr : World} {xs ys : Array Value} (h : BnIs w wr xs ys) : w.heap.size + 3 ≤ wr.heap.size := (Array.getElem?_eq_some_iff.1 h.2.2.1).1
theorem bn_keep {w wr w' : World} {xs ys : Array Value} (h : BnIs w wr xs ys) (hk : Keep [62, 64] wr w') (hb : Below w.heap.size wr w') : BnIs w w' xs ys :=
  ⟨hk _ _ _ _ h.1 (by decide), hk _ _ _ _ h.2.1 (by decide), hk _ _ _ _ h.2.2.1 (by decide), h.2.2.2.trans hb⟩

def ys7 (V L C N H : Int) (vs vr : Value) : Array Value := #[.int .i64 V, .int .i64 L, .int .i64 C, .int .i64 N, .int .i64 H, vs, vr]
theorem bn_cells {w wr : World} {xs : Array Value} {V L C N H V' L' C' N' H' : Int} {vs vr vs' vr' : Value} (hx : xs = ys7 V' L' C' N' H' vs' vr') (h : BnIs w wr xs (ys7 V L C N H vs vr)) :
    wr.cell? ⟨w.heap.size, 5, none⟩ = some vs' ∧ wr.cell? ⟨w.heap.size, 6, none⟩ = some vr' ∧ wr.cell? ⟨w.heap.size + 1 + 1, 3, none⟩ = some (.int .i64 N) ∧ wr.cell? ⟨w.heap.size + 1 + 1, 5, none⟩ = some vs ∧ wr.cell? ⟨w.heap.size + 1 + 1, 6, none⟩ = some vr ∧ ∀ o, wr.frozen? ⟨w.heap.size + 1 + 1, o, none⟩ = false := by
  subst hx
  exact ⟨by rw [cell_of_row wr _ 5 _ _ _ h.1]; rfl, by rw [cell_of_row wr _ 6 _ _ _ h.1]; rfl, by rw [cell_of_row wr _ 3 _ _ _ h.2.2.1]; rfl, by rw [cell_of_row wr _ 5 _ _ _ h.2.2.1]; rfl, by rw [cell_of_row wr _ 6 _ _ _ h.2.2.1]; rfl, fun o => frozen_of_row wr _ o _ _ h.2.2.1⟩
theorem news_bn {w X : World} {cs : Array Value} {t : TypeId} {l : List Value} {b : Nat} (hh : X.heap = (w.alloc (.cells cs t)).heap) (hl : l = cs.toList) (hb : w.heap.size = b) : ∀ j u, l[j]? = some u → X.cell? ((⟨b, 0, none⟩ : Addr).add j) = some u := by
  subst hb; exact news_at hl hh
theorem bn_start (w : World) (xs ys : Array Value) (_u : Unit) : BnIs w (((w.alloc (.cells xs 28)).alloc (.cells zero7 28)).alloc (.cells ys 28)) xs ys := by
  refine ⟨?_, ?_, ?_, (below2 w _ _).alloc (by simp; omega) _⟩
  · rw [Below.heap_alloc _ _ _ (by simp; omega), Below.heap_alloc _ _ _ (by simp)]; exact heap_alloc_new w _
  · rw [Below.heap_alloc _ _ _ (by simp)]; have := heap_alloc_new (w.alloc (.cells xs 28)) (.cells zero7 28); simpa using this
  · have := heap_alloc_new ((w.alloc (.cells xs 28)).alloc (.cells zero7 28)) (.cells ys 28); simpa using this
theorem bn_y {w wr : World} {xs : Array Value} {V L C N H : Int} {vs vr : Value} (h : BnIs w wr xs (ys7 V L C N H vs vr)) :
    wr.cell? ⟨w.heap.size + 1 + 1, 0, none⟩ = some (.int .i64 V) ∧ wr.cell? ⟨w.heap.size + 1 + 1, 1, none⟩ = some (.int .i64 L) ∧ wr.cell? ⟨w.heap.size + 1 + 1, 2, none⟩ = some (.int .i64 C) ∧ wr.cell? ⟨w.heap.size + 1 + 1, 3, none⟩ = some (.int .i64 N) ∧ wr.cell? ⟨w.heap.size + 1 + 1, 4, none⟩ = some (.int .i64 H) ∧ wr.cell? ⟨w.heap.size + 1 + 1, 5, none⟩ = some vs ∧ wr.cell? ⟨w.heap.size + 1 + 1, 6, none⟩ = some vr := by
  refine ⟨?_, ?_, ?_, ?_, ?_, ?_, ?_⟩ <;> (rw [cell_of_row wr _ _ _ _ _ h.2.2.1]; rfl)
/- behind an append onto one of the lists, and the store of it -/
theorem bn_append {w wr X w1 : World} {xs : Array Value} {V L C N H : Int} {vs vr v v' : Value} {B k size : Nat} {e : TypeId} {zs : List Value} {q : Nat} (hg : X.grownBy w1 v.ownBlock) (hB : BnIs w wr xs (ys7 V L C N H vs vr)) (hX : Below wr.heap.size wr X) (hv : wr.ownsRow B e size v k zs) (hBs : w.heap.size ≤ B)
    (he : e ∈ [62, 64]) : BnIs w w1 xs (ys7 V L C N H vs vr) ∧ BnIs w (w1.setCell ⟨w.heap.size + 1 + 1, q, none⟩ v') xs ((ys7 V L C N H vs vr).setIfInBounds q v') := by
  have hs := bn_size hB
  have h1 : BnIs w w1 xs (ys7 V L C N H vs vr) := by
    refine bn_keep hB ((Keep.of_below hX).trans (Keep.grown (own_below hv hX) he hg)) ?_
    exact (hX.mono (by omega)).trans ((Below.refl _ _).grown hg (by have := hX.size; omega) (fun k hk => by have := (hv.lt k hk).1; omega))
  refine ⟨h1, ?_, ?_, heap_setCell_same w1 _ q _ _ _ h1.2.2.1, h1.2.2.2.setCell (by show w.heap.size ≤ w.heap.size + 1 + 1; omega) _⟩
  · rw [Below.heap_setCell _ _ _ _ (by show w.heap.size ≠ w.heap.size + 1 + 1; omega)]; exact h1.1
  · rw [Below.heap_setCell _ _ _ _ (by show w.heap.size + 1 ≠ w.heap.size + 1 + 1; omega)]; exact h1.2.1
theorem own_yb {w w1 : World} {xs ys : Array Value} {B k size q : Nat} {e : TypeId} {v u : Value} {zs : List Value} (h : BnIs w w1 xs ys) (hv : w1.ownsRow B e size v k zs) (he : e ≠ 28) : (w1.setCell ⟨w.heap.size + 1 + 1, q, none⟩ u).ownsRow B e size v k zs := own_setCell hv h.2.2.1 he u

set_option maxRecDepth 100000 in
set_option maxHeartbeats 2000000 in
theorem Bent_any (X : Nat → Int) (S T : Nat → Nat → Int) (aS aR : Option Addr) (n m cn cm : Nat) (w : World) (hX : ∀ i, i < 5 → -9223372036854775808 ≤ X i ∧ X i ≤ 9223372036854775807) (hn : n ≤ 9223372036854775807) (hm : m ≤ 9223372036854775807)
    (hS : Came w aS n 5 S) (hT : Came w aR m 3 T) :
    Calls Tryz.prog 10 #[.agg #[.int .i64 (X 0), .int .i64 (X 1), .int .i64 (X 2), .int .i64 (X 3), .int .i64 (X 4), .slice aS n cn, .slice aR m cm]] w fun e w' =>
      ∃ vs vr, e = .returned (inst (bentR X S T n m) vs vr) ∧ w'.ownsRow w.heap.size 62 5 vs (bentR X S T n m).stops.length (ints (bentR X S T n m).stops.flatten) ∧ w'.ownsRow w.heap.size 64 3 vr (bentR X S T n m).roads.length (ints (bentR X S T n m).roads.flatten) ∧ Below w.heap.size w w' := by
  obtain ⟨i0, hi, hz0, hz1, hz2⟩ := info_parts Tryz.infoStop
  obtain ⟨j0, hj, hy0, hy1, hy2⟩ := info_parts Tryz.infoRoad
  have HS := hide hS
  have HT := hide hT
  have x0 := hX 0 (by omega)
  have x1 := hX 1 (by omega)
  have x2 := hX 2 (by omega)
  have x3 := hX 3 (by omega)
  have x4 := hX 4 (by omega)
  clear hS hT hX
  have HR : Hid (bentR X S T n m = { vans := bentS (X 0) 1 3, load := bentS (X 1) 0 10000, close := bentS (X 2) 0 10000, nodes := bentS (X 3) 1 12, home := bentS (X 4) 0 (bentS (X 3) 1 12 - 1), stops := bstops (bentS (X 3) 1 12) S (min n 7), roads := broads (bentS (X 3) 1 12) T (min m 40), head := true }) := rfl
  generalize bentR X S T n m = R at *
  have hN := bentS_range (X 3) 1 12 (by omega)
  generalize X 0 = v at *
  generalize X 1 = l at *
  generalize X 2 = c at *
  generalize X 4 = h at *
  generalize X 3 = nn at *
  go_enter Tryz.func10, Tryz.ntmps10
  go_wp2_with (go_at_call 17; refine (bent_any _ _ _ _ (by omega) (by omega) (by omega) (by omega) (by omega)).mono ?_; rintro e w' ⟨rfl, rfl⟩)
  obtain ⟨xs, hxs⟩ : ∃ xs, xs = ys7 v l c nn h (.slice aS n cn) (.slice aR m cm) := ⟨_, rfl⟩
  have HXS := hide hxs
  have hI : BnIs w (((w.alloc (.cells (ys7 v l c nn h (.slice aS n cn) (.slice aR m cm)) 28)).alloc (.cells zero7 28)).alloc (.cells (ys7 (bentS v 1 3) (bentS l 0 10000) (bentS c 0 10000) (bentS nn 1 12) (bentS h 0 (bentS nn 1 12 - 1)) (.slice none 0 0) (.slice none 0 0)) 28)) xs (ys7 (bentS v 1 3) (bentS l 0 10000) (bentS c 0 10000) (bentS nn 1 12) (bentS h 0 (bentS nn 1 12 - 1)) (.slice none 0 0) (.slice none 0 0)) := by
    rw [hxs]; exact bn_start _ _ _ ()
  have HI := hide hI
  clear hI hxs
  have hVr := bentS_range v 1 3 (by omega)
  generalize bentS v 1 3 = V at *
  generalize bentS l 0 10000 = L at *
  generalize bentS c 0 10000 = C at *
  generalize bentS h 0 (bentS nn 1 12 - 1) = H at *
  generalize bentS nn 1 12 = N at *
  go_loopw [4] (fun i wr => ∃ (k : Nat) (vs : Value), i = .int .i64 k ∧ k ≤ n ∧ k ≤ 7 ∧ Hid (BnIs w wr xs (ys7 V L C N H vs (.slice none 0 0))) ∧ Hid (wr.ownsRow (w.heap.size + 3) 62 5 vs k (ints (bstops N S k).flatten))) (fun i _ => 7 - (intOf i).toNat)
  case atStart => exact ⟨0, _, rfl, by omega, by omega, HI, World.ownsRow_nil _ _ _ _⟩
  case round =>
    clear HI
    obtain ⟨k, vs, rfl, hkn, hk7, HI, HO⟩ := hrel
    obtain ⟨d5, d6, y3, y5, y6, yf⟩ := bn_cells HXS.out HI.out
    have hsz := bn_size HI.out
    by_cases hlt : k < n ∧ k < 7
    · obtain ⟨hl1, hl2⟩ := hlt
      obtain ⟨b, o, rfl, hb, hc⟩ := HS.out (by omega)
      obtain ⟨avs, cvs, rfl, _, _⟩ := own_val HO.out
      have hcl : ∀ j, j < 5 → wr.cell? ⟨b, o + k * 5 + j, none⟩ = some (.int .i64 (S k j)) := fun j hj => (HI.out.2.2.2.cell (by exact hb)).trans (hc k j hl1 hj).1
      have z0 : wr.cell? ⟨b, o + k * 5, none⟩ = some (.int .i64 (S k 0)) := hcl 0 (by omega)
      have z1 : wr.cell? ⟨b, o + k * 5 + 1, none⟩ = some (.int .i64 (S k 1)) := hcl 1 (by omega)
      have z2 : wr.cell? ⟨b, o + k * 5 + 2, none⟩ = some (.int .i64 (S k 2)) := hcl 2 (by omega)
      have z3 : wr.cell? ⟨b, o + k * 5 + 3, none⟩ = some (.int .i64 (S k 3)) := hcl 3 (by omega)
      have z4 : wr.cell? ⟨b, o + k * 5 + 4, none⟩ = some (.int .i64 (S k 4)) := hcl 4 (by omega)
      have q0 := (hc k 0 hl1 (by omega)).2
      have q1 := (hc k 1 hl1 (by omega)).2
      have q2 := (hc k 2 hl1 (by omega)).2
      have q3 := (hc k 3 hl1 (by omega)).2
      have q4 := (hc k 4 hl1 (by omega)).2
      have HSS : Hid (bstop N (S k) = [bentS (S k 0) 0 (N - 1), bentS (S k 1) 0 10000, bentS (S k 2) 0 10000, bentS (S k 3) (bentS (S k 2) 0 10000) 10000, bentS (S k 4) 0 10000]) := rfl
      clear hc hcl d6 y6
      have hbl : b < wr.heap.size := by omega
      have hyl : w.heap.size + 1 + 1 < wr.heap.size := by omega
      have hxl : w.heap.size < wr.heap.size := by omega
      have hxm : w.heap.size + 1 < wr.heap.size := by omega
      have hym : w.heap.size + 1 + 1 < wr.heap.size + 1 := by omega
      generalize S k 0 = a0 at *
      generalize S k 1 = a1 at *
      generalize S k 2 = a2 at *
      generalize S k 3 = a3 at *
      generalize S k 4 = a4 at *
      have hr2 := bentS_range a2 0 10000 (by omega)
      go_wp2_with (first
        | (go_at_call 17; refine (bent_any _ _ _ _ (by omega) (by omega) (by omega) (by omega) (by omega)).mono ?_; rintro e w' ⟨rfl, rfl⟩)
        | (at_builtin; refine wpList_append_own _ rfl _ _ 25 rfl (w.heap.size + 3) 62 i0 (.agg #[.int .i64 0, .int .i64 0, .int .i64 0, .int .i64 0, .int .i64 0]) 5 40 Tryz.underlying25 hi hz0 hz1 hz2 rfl (by decide) _ _ _ rfl (((HO.out.alloc _).alloc _).alloc _) ⟨wr.heap.size + 1 + 1, 0, none⟩ 1 1 [.int .i64 (bentS a0 0 (N - 1)), .int .i64 (bentS a1 0 10000), .int .i64 (bentS a2 0 10000), .int .i64 (bentS a3 (bentS a2 0 10000) 10000), .int .i64 (bentS a4 0 10000)] rfl rfl ?c1 ?c2 ?c3 ?c4 ?c5 ?_))
      case c1 => exact news_bn (w := (wr.alloc _).alloc _) rfl rfl (by simp)
      case c2 => exact ints5 _ _ _ _ _
      case c3 => unfold maxLen; omega
      case c4 => omega
      case c5 => simp; omega
      intro v' w1 hown' hgrow _
      have HO' := hide hown'
      obtain ⟨g5, cap5, cur5, hv5, _, _, _⟩ := own_shape hown' (by omega)
      subst hv5
      obtain ⟨hB1, hB2⟩ := bn_append (q := 5) (v' := .slice (some ⟨g5, 0, none⟩) (k + 1) cap5) hgrow HI.out (((below2 wr _ _)).alloc (by simp; omega) _) HO.out (by omega) (by decide)
      obtain ⟨_, _, _, w5, _, wf⟩ := bn_cells HXS.out hB1
      have HB1 := hide hB1
      have HB2 := hide hB2
      clear hown' hgrow hB1 hB2 z0 z1 z2 z3 z4 q0 q1 q2 q3 q4
      go_wp2
      go_roundw
      case rel =>
        refine ⟨k + 1, .slice (some ⟨g5, 0, none⟩) (k + 1) cap5, by go_num, by omega, by omega, HB2.out, ?_⟩
        have h := own_yb (q := 5) (u := .slice (some ⟨g5, 0, none⟩) (k + 1) cap5) HB1.out HO'.out (by decide)
        show World.ownsRow _ _ _ _ _ _ _
        rw [bstops_succ, ints_flat_snoc, HSS.out]; exact h
      case measure => simp [intOf]; omega
    · have hkm : k = min n 7 := by omega
      have HO' : Hid (wr.ownsRow (w.heap.size + 3) 62 5 vs k (ints (bstops N S k).flatten)) := HO
      have HKM := hide hkm
      clear hkm HO
      obtain ⟨avs, cvs, rfl, _, _⟩ := own_val HO'.out
      clear d6 y3 y5 y6 yf
      by_cases hA : k < n
      · have e1 : decide ((k : Int) < (n : Int)) = true := by simp; omega
        have e2 : decide ((k : Int) < 7) = false := by simp; omega
        go_wp2_with fail
        go_loopw [7] (fun i wx => ∃ (p : Nat) (vr : Value), i = .int .i64 p ∧ p ≤ m ∧ p ≤ 40 ∧ Hid (BnIs w wx xs (ys7 V L C N H (.slice avs k cvs) vr)) ∧ Hid (wx.ownsRow (w.heap.size + 3) 62 5 (.slice avs k cvs) k (ints (bstops N S k).flatten)) ∧ Hid (wx.ownsRow (w.heap.size + 3) 64 3 vr p (ints (broads N T p).flatten))) (fun i _ => 40 - (intOf i).toNat)
        case atStart => exact ⟨0, _, rfl, by omega, by omega, HI, HO', World.ownsRow_nil _ _ _ _⟩
        case round =>
          clear HI HO' d5 hsz
          obtain ⟨p, vr, rfl, hpm, hp40, HI, HO, HP⟩ := hrel
          obtain ⟨d5, d6, y3, y5, y6, yf⟩ := bn_cells HXS.out HI.out
          have hsz := bn_size HI.out
          by_cases hlt : p < m ∧ p < 40
          · obtain ⟨hl1, hl2⟩ := hlt
            obtain ⟨b, o, rfl, hb, hc⟩ := HT.out (by omega)
            obtain ⟨avr, cvr, rfl, _, _⟩ := own_val HP.out
            have hcl : ∀ j, j < 3 → wr.cell? ⟨b, o + p * 3 + j, none⟩ = some (.int .i64 (T p j)) := fun j hj => (HI.out.2.2.2.cell (by exact hb)).trans (hc p j hl1 hj).1
            have z0 : wr.cell? ⟨b, o + p * 3, none⟩ = some (.int .i64 (T p 0)) := hcl 0 (by omega)
            have z1 : wr.cell? ⟨b, o + p * 3 + 1, none⟩ = some (.int .i64 (T p 1)) := hcl 1 (by omega)
            have z2 : wr.cell? ⟨b, o + p * 3 + 2, none⟩ = some (.int .i64 (T p 2)) := hcl 2 (by omega)
            have q0 := (hc p 0 hl1 (by omega)).2
            have q1 := (hc p 1 hl1 (by omega)).2
            have q2 := (hc p 2 hl1 (by omega)).2
            have HSS : Hid (broad N (T p) = [bentS (T p 0) 0 (N - 1), bentS (T p 1) 0 (N - 1), bentS (T p 2) 0 10000]) := rfl
            clear hc hcl d5 y5
            have hbl : b < wr.heap.size := by omega
            have hyl : w.heap.size + 1 + 1 < wr.heap.size := by omega
            have hxl : w.heap.size < wr.heap.size := by omega
            have hxm : w.heap.size + 1 < wr.heap.size := by omega
            have hym : w.heap.size + 1 + 1 < wr.heap.size + 1 := by omega
            generalize T p 0 = a0 at *
            generalize T p 1 = a1 at *
            generalize T p 2 = a2 at *
            go_wp2_with (first
              | (go_at_call 17; refine (bent_any _ _ _ _ (by omega) (by omega) (by omega) (by omega) (by omega)).mono ?_; rintro e w' ⟨rfl, rfl⟩)
              | (at_builtin; refine wpList_append_own _ rfl _ _ 26 rfl (w.heap.size + 3) 64 j0 (.agg #[.int .i64 0, .int .i64 0, .int .i64 0]) 3 24 Tryz.underlying26 hj hy0 hy1 hy2 rfl (by decide) _ _ _ rfl (((HP.out.alloc _).alloc _).alloc _) ⟨wr.heap.size + 1 + 1, 0, none⟩ 1 1 [.int .i64 (bentS a0 0 (N - 1)), .int .i64 (bentS a1 0 (N - 1)), .int .i64 (bentS a2 0 10000)] rfl rfl ?c1 ?c2 ?c3 ?c4 ?c5 ?_))
            case c1 => exact news_bn (w := (wr.alloc _).alloc _) rfl rfl (by simp)
            case c2 => exact ints3 _ _ _
            case c3 => unfold maxLen; omega
            case c4 => omega
            case c5 => simp; omega
            intro v' w1 hown' hgrow _
            have HP' := hide hown'
            have HO1 : Hid (w1.ownsRow (w.heap.size + 3) 62 5 (.slice avs k cvs) k (ints (bstops N S k).flatten)) :=
              (((HO.out.alloc _).alloc _).alloc _).kept hgrow (own_ne HO.out HP.out (by decide))
            obtain ⟨g5, cap5, cur5, hv5, _, _, _⟩ := own_shape hown' (by omega)
            subst hv5
            obtain ⟨hB1, hB2⟩ := bn_append (q := 6) (v' := .slice (some ⟨g5, 0, none⟩) (p + 1) cap5) hgrow HI.out (((below2 wr _ _)).alloc (by simp; omega) _) HP.out (by omega) (by decide)
            obtain ⟨_, _, _, _, w6, wf⟩ := bn_cells HXS.out hB1
            have HB1 := hide hB1
            have HB2 := hide hB2
            clear hown' hgrow hB1 hB2 z0 z1 z2 q0 q1 q2
            go_wp2
            go_roundw
            case rel =>
              refine ⟨p + 1, .slice (some ⟨g5, 0, none⟩) (p + 1) cap5, by go_num, by omega, by omega, HB2.out, own_yb HB1.out HO1.out (by decide), ?_⟩
              have h := own_yb (q := 6) (u := .slice (some ⟨g5, 0, none⟩) (p + 1) cap5) HB1.out HP'.out (by decide)
              show World.ownsRow _ _ _ _ _ _ _
              rw [broads_succ, ints_flat_snoc, HSS.out]; exact h
            case measure => simp [intOf]; omega
          · have hpm' : p = min m 40 := by omega
            have HP' : Hid (wr.ownsRow (w.heap.size + 3) 64 3 vr p (ints (broads N T p).flatten)) := HP
            have HPM := hide hpm'
            clear hpm' HP
            obtain ⟨avr, cvr, rfl, _, _⟩ := own_val HP'.out
            obtain ⟨b0, b1, b2, b3, b4, b5, b6, hfz⟩ := box7 HI.out.2.1
            obtain ⟨c0, c1, c2, c3, c4, c5, c6⟩ := bn_y HI.out
            clear y3 y5 y6 yf d5
            go_wp2
            all_goals
              rw [HR.out]
              refine bodyPost_ret (v := .agg #[.int .i64 V, .int .i64 L, .int .i64 C, .int .i64 N, .int .i64 H, .slice avs k cvs, .slice avr p cvr]) (by simp [results, Tryz.results10, go_sem, b0, b1, b2, b3, b4, b5, b6]) rfl ?_
              refine ⟨.slice avs k cvs, .slice avr p cvr, rfl, ?_, ?_, HI.out.2.2.2.trans (below_put7 _ _ _ (by show w.heap.size ≤ w.heap.size + 1; omega) _ _ _ _ _ _ _)⟩
              · rw [bstops_length, ← HKM.out]; exact own_put7 HI.out.2.1 (own_base HO.out (show w.heap.size ≤ w.heap.size + 3 by omega)) (by decide)
              · rw [broads_length, ← HPM.out]; exact own_put7 HI.out.2.1 (own_base HP'.out (show w.heap.size ≤ w.heap.size + 3 by omega)) (by decide)
      · have e1 : decide ((k : Int) < (n : Int)) = false := by simp; omega
        go_wp2_with fail
        go_loopw [7] (fun i wx => ∃ (p : Nat) (vr : Value), i = .int .i64 p ∧ p ≤ m ∧ p ≤ 40 ∧ Hid (BnIs w wx xs (ys7 V L C N H (.slice avs k cvs) vr)) ∧ Hid (wx.ownsRow (w.heap.size + 3) 62 5 (.slice avs k cvs) k (ints (bstops N S k).flatten)) ∧ Hid (wx.ownsRow (w.heap.size + 3) 64 3 vr p (ints (broads N T p).flatten))) (fun i _ => 40 - (intOf i).toNat)
        case atStart => exact ⟨0, _, rfl, by omega, by omega, HI, HO', World.ownsRow_nil _ _ _ _⟩
        case round =>
          clear HI HO' d5 hsz
          obtain ⟨p, vr, rfl, hpm, hp40, HI, HO, HP⟩ := hrel
          obtain ⟨d5, d6, y3, y5, y6, yf⟩ := bn_cells HXS.out HI.out
          have hsz := bn_size HI.out
          by_cases hlt : p < m ∧ p < 40
          · obtain ⟨hl1, hl2⟩ := hlt
            obtain ⟨b, o, rfl, hb, hc⟩ := HT.out (by omega)
            obtain ⟨avr, cvr, rfl, _, _⟩ := own_val HP.out
            have hcl : ∀ j, j < 3 → wr.cell? ⟨b, o + p * 3 + j, none⟩ = some (.int .i64 (T p j)) := fun j hj => (HI.out.2.2.2.cell (by exact hb)).trans (hc p j hl1 hj).1
            have z0 : wr.cell? ⟨b, o + p * 3, none⟩ = some (.int .i64 (T p 0)) := hcl 0 (by omega)
            have z1 : wr.cell? ⟨b, o + p * 3 + 1, none⟩ = some (.int .i64 (T p 1)) := hcl 1 (by omega)
            have z2 : wr.cell? ⟨b, o + p * 3 + 2, none⟩ = some (.int .i64 (T p 2)) := hcl 2 (by omega)
            have q0 := (hc p 0 hl1 (by omega)).2
            have q1 := (hc p 1 hl1 (by omega)).2
            have q2 := (hc p 2 hl1 (by omega)).2
            have HSS : Hid (broad N (T p) = [bentS (T p 0) 0 (N - 1), bentS (T p 1) 0 (N - 1), bentS (T p 2) 0 10000]) := rfl
            clear hc hcl d5 y5
            have hbl : b < wr.heap.size := by omega
            have hyl : w.heap.size + 1 + 1 < wr.heap.size := by omega
            have hxl : w.heap.size < wr.heap.size := by omega
            have hxm : w.heap.size + 1 < wr.heap.size := by omega
            have hym : w.heap.size + 1 + 1 < wr.heap.size + 1 := by omega
            generalize T p 0 = a0 at *
            generalize T p 1 = a1 at *
            generalize T p 2 = a2 at *
            go_wp2_with (first
              | (go_at_call 17; refine (bent_any _ _ _ _ (by omega) (by omega) (by omega) (by omega) (by omega)).mono ?_; rintro e w' ⟨rfl, rfl⟩)
              | (at_builtin; refine wpList_append_own _ rfl _ _ 26 rfl (w.heap.size + 3) 64 j0 (.agg #[.int .i64 0, .int .i64 0, .int .i64 0]) 3 24 Tryz.underlying26 hj hy0 hy1 hy2 rfl (by decide) _ _ _ rfl (((HP.out.alloc _).alloc _).alloc _) ⟨wr.heap.size + 1 + 1, 0, none⟩ 1 1 [.int .i64 (bentS a0 0 (N - 1)), .int .i64 (bentS a1 0 (N - 1)), .int .i64 (bentS a2 0 10000)] rfl rfl ?c1 ?c2 ?c3 ?c4 ?c5 ?_))
            case c1 => exact news_bn (w := (wr.alloc _).alloc _) rfl rfl (by simp)
            case c2 => exact ints3 _ _ _
            case c3 => unfold maxLen; omega
            case c4 => omega
            case c5 => simp; omega
            intro v' w1 hown' hgrow _
            have HP' := hide hown'
            have HO1 : Hid (w1.ownsRow (w.heap.size + 3) 62 5 (.slice avs k cvs) k (ints (bstops N S k).flatten)) :=
              (((HO.out.alloc _).alloc _).alloc _).kept hgrow (own_ne HO.out HP.out (by decide))
            obtain ⟨g5, cap5, cur5, hv5, _, _, _⟩ := own_shape hown' (by omega)
            subst hv5
            obtain ⟨hB1, hB2⟩ := bn_append (q := 6) (v' := .slice (some ⟨g5, 0, none⟩) (p + 1) cap5) hgrow HI.out (((below2 wr _ _)).alloc (by simp; omega) _) HP.out (by omega) (by decide)
            obtain ⟨_, _, _, _, w6, wf⟩ := bn_cells HXS.out hB1
            have HB1 := hide hB1
            have HB2 := hide hB2
            clear hown' hgrow hB1 hB2 z0 z1 z2 q0 q1 q2
            go_wp2
            go_roundw
            case rel =>
              refine ⟨p + 1, .slice (some ⟨g5, 0, none⟩) (p + 1) cap5, by go_num, by omega, by omega, HB2.out, own_yb HB1.out HO1.out (by decide), ?_⟩
              have h := own_yb (q := 6) (u := .slice (some ⟨g5, 0, none⟩) (p + 1) cap5) HB1.out HP'.out (by decide)
              show World.ownsRow _ _ _ _ _ _ _
              rw [broads_succ, ints_flat_snoc, HSS.out]; exact h
            case measure => simp [intOf]; omega
          · have hpm' : p = min m 40 := by omega
            have HP' : Hid (wr.ownsRow (w.heap.size + 3) 64 3 vr p (ints (broads N T p).flatten)) := HP
            have HPM := hide hpm'
            clear hpm' HP
            obtain ⟨avr, cvr, rfl, _, _⟩ := own_val HP'.out
            obtain ⟨b0, b1, b2, b3, b4, b5, b6, hfz⟩ := box7 HI.out.2.1
            obtain ⟨c0, c1, c2, c3, c4, c5, c6⟩ := bn_y HI.out
            clear y3 y5 y6 yf d5
            go_wp2
            all_goals
              rw [HR.out]
              refine bodyPost_ret (v := .agg #[.int .i64 V, .int .i64 L, .int .i64 C, .int .i64 N, .int .i64 H, .slice avs k cvs, .slice avr p cvr]) (by simp [results, Tryz.results10, go_sem, b0, b1, b2, b3, b4, b5, b6]) rfl ?_
              refine ⟨.slice avs k cvs, .slice avr p cvr, rfl, ?_, ?_, HI.out.2.2.2.trans (below_put7 _ _ _ (by show w.heap.size ≤ w.heap.size + 1; omega) _ _ _ _ _ _ _)⟩
              · rw [bstops_length, ← HKM.out]; exact own_put7 HI.out.2.1 (own_base HO.out (show w.heap.size ≤ w.heap.size + 3 by omega)) (by decide)
              · rw [broads_length, ← HPM.out]; exact own_put7 HI.out.2.1 (own_base HP'.out (show w.heap.size ≤ w.heap.size + 3 by omega)) (by decide)
end Go.Proofs.YtebinaopncclgabGreatDoor
namespace Go.Proofs.YtebinaopncclgabGreatDoor
open Go.RowKit Go.IntWalk

theorem retS {a b : ByteArray} (h : a = b) : Ending.returned (.string a) = .returned (.string b) := by rw [h]
theorem conv1 (W : World) (m : Nat) :
    (convert 144 9 (.slice (some ⟨W.heap.size, 0, none⟩) 1 1)).run Tryz.prog (W.alloc (.cells #[.int .u8 (48 + (m : Int) % 10)] 5)) = .ok (.string ⟨#[dg m]⟩) (W.alloc (.cells #[.int .u8 (48 + (m : Int) % 10)] 5)) := by
  have h := run_convert_bytes_arg (P := Tryz.prog) (W.alloc (.cells #[.int .u8 (48 + (m : Int) % 10)] 5)) 144 5 Tryz.underlying144 Tryz.underlying5 W.heap.size 0 1 1 [48 + (m : Int) % 10] rfl
    (by intro i hi; obtain rfl : i = 0 := by omega
        exact cell_of_row _ W.heap.size 0 _ _ (0, 0) (heap_alloc_new W _)) 9 Tryz.underlying9
  rw [h]
  have e : strOfNums [48 + (m : Int) % 10] = ⟨#[dg m]⟩ := by
    have : (48 + (m : Int) % 10).toNat = 48 + m % 10 := by omega
    simp only [strOfNums, List.map_cons, List.map_nil, this]; rfl
  rw [e]

set_option maxHeartbeats 1000000 in
theorem digits_any (n : Nat) (w : World) (hn : n ≤ 99999) :
    Calls Tryz.prog 36 #[.int .i64 n] w fun e w' => e = .returned (.string ⟨(decS n).toArray⟩) ∧ Below w.heap.size w w' := by
  go_enter Tryz.func36, Tryz.ntmps36
  go_wp2
  go_loopw [0, 3] (fun i s wr => ∃ (f m : Nat) (t : List UInt8), i = .int .i64 m ∧ s = .string ⟨t.toArray⟩ ∧ m ≤ 99999 ∧ Hid (m < 10 ^ (f + 1)) ∧ t.length ≤ 5 ∧ t.length + f ≤ 5 ∧ Hid (decF f m ++ t = decF 5 n) ∧ Below w.heap.size w wr) (fun i _ _ => (intOf i).toNat)
  case atStart => exact ⟨5, n, [], rfl, rfl, hn, by show _ < _; omega, by simp, by simp, by show _ = _; simp, Below.refl _ _⟩
  case round =>
    obtain ⟨f, m, t, rfl, rfl, hm, HM, ht, htf, HD, hbel⟩ := hrel
    have kc := fun W => conv1 W m
    have hsize := hbel.size
    by_cases h9 : 9 < m
    · go_wp2
      go_roundw
      case rel =>
        obtain ⟨f', rfl⟩ : ∃ f', f = f' + 1 := by
          cases f with
          | zero => have := HM.out; omega
          | succ f' => exact ⟨f', rfl⟩
        refine ⟨f', m / 10, dg m :: t, by go_num, by rw [ba_cons], by omega, ?_, by simp; omega, by simp; omega, ?_, hbel.alloc hsize _⟩
        · have := HM.out; show m / 10 < 10 ^ (f' + 1); rw [Nat.pow_succ] at this; omega
        · show _ = _; rw [← HD.out, decF_step h9]; simp
      case measure => simp [intOf]; omega
    · go_wp2
      go_ret
      refine ⟨retS ?_, hbel.alloc hsize _⟩
      have e : decS n = dg m :: t := by
        show decF 5 n = _
        rw [← HD.out, decF_low (by omega)]; rfl
      rw [e]; apply ByteArray.ext; simp [ByteArray.data_append]
end Go.Proofs.YtebinaopncclgabGreatDoor
namespace Go.Proofs.YtebinaopncclgabGreatDoor
open Go.RowKit Go.IntWalk

set_option maxHeartbeats 1000000 in
theorem line0_any (b n c : Nat) (k : List UInt8) (zs : List Int) (w : World) (hn : zs.length = n) (hl : n ≤ 10) (hk : k.length ≤ 10) (hb : b < w.heap.size)
    (hz : ∀ z ∈ zs, 0 ≤ z ∧ z ≤ 99999) (hc : ∀ i, i < n → w.cell? ⟨b, i, none⟩ = some (.int .i64 (zs.getD i 0))) :
    Calls Tryz.prog 21 #[.string ⟨k.toArray⟩, .slice (some ⟨b, 0, none⟩) n c, .int .i64 0] w fun e w' => e = .returned (.string ⟨(lineL k zs).toArray⟩) ∧ Below w.heap.size w w' := by
  subst hn
  have hbits : bits BinOp.and IntKind.i64 0 1 = 0 := by decide
  go_enter Tryz.func21, Tryz.ntmps21
  go_wp2
  go_loopw [0, 7, 8] (fun s i d wr => ∃ (m : Nat) (t : List UInt8), i = .int .i64 m ∧ s = .string ⟨t.toArray⟩ ∧ m ≤ zs.length ∧ t.length ≤ 10 + 7 * m ∧ Hid (t = k ++ wrds (zs.take m)) ∧ Below w.heap.size w wr) (fun _ i _ _ => zs.length - (intOf i).toNat)
  case atStart => exact ⟨0, k, rfl, rfl, by simp, by omega, by show _ = _; simp [wrds], Below.refl _ _⟩
  case round =>
    obtain ⟨m, t, rfl, rfl, hm, ht, HT, hbel⟩ := hrel
    have hsize := hbel.size
    by_cases hlt : m < zs.length
    · have hcm : wr.cell? ⟨b, m, none⟩ = some (.int .i64 zs[m]) := by
        rw [hbel.cell (by exact hb), hc m hlt]; simp [hlt]
      have hzm := hz zs[m] (List.getElem_mem hlt)
      have HS := wrds_snoc hlt
      have HS' : Hid (wrds (zs.take (m + 1)) = wrds (zs.take m) ++ wrd zs[m]) := HS
      clear hc hz HS
      generalize zs[m] = z at *
      obtain ⟨q, rfl⟩ := Int.eq_ofNat_of_zero_le hzm.1
      have hq : q ≤ 99999 := by omega
      have HQ := decF_length 5 q
      have HQ' : (decS q).length ≤ 6 := HQ
      clear hzm HQ
      go_wp2_with (go_at_call 36; refine (digits_any q _ hq).mono ?_; rintro e w' ⟨rfl, hb1⟩)
      go_roundw
      case rel =>
        refine ⟨m + 1, t ++ wrd q, by go_num, ?_, by omega, ?_, ?_, hbel.trans (hb1.mono hsize)⟩
        · show Value.string _ = Value.string _
          congr 1; apply ByteArray.ext; simp [ByteArray.data_append, wrd]
        · have := wrd_length q; simp; omega
        · show _ = _; rw [HS'.out, HT.out]; simp
      case measure => simp [intOf]; omega
    · go_wp2
      go_ret
      refine ⟨retS ?_, hbel⟩
      have e : lineL k zs = t ++ [10] := by unfold lineL; rw [HT.out, List.take_of_length_le (by omega)]
      rw [e]; apply ByteArray.ext; simp [ByteArray.data_append]
end Go.Proofs.YtebinaopncclgabGreatDoor
namespace Go.Proofs.YtebinaopncclgabGreatDoor
open Go.RowKit Go.IntWalk

theorem cells5 {f : Nat → Option Value} {a b c d e : Int} (h0 : f 0 = some (.int .i64 a)) (h1 : f 1 = some (.int .i64 b)) (h2 : f 2 = some (.int .i64 c)) (h3 : f 3 = some (.int .i64 d)) (h4 : f 4 = some (.int .i64 e)) : ∀ i, i < 5 → f i = some (.int .i64 ([a, b, c, d, e].getD i 0)) := by
  intro i hi
  match i, hi with
  | 0, _ => exact h0
  | 1, _ => exact h1
  | 2, _ => exact h2
  | 3, _ => exact h3
  | 4, _ => exact h4
theorem cells3 {f : Nat → Option Value} {a b c : Int} (h0 : f 0 = some (.int .i64 a)) (h1 : f 1 = some (.int .i64 b)) (h2 : f 2 = some (.int .i64 c)) : ∀ i, i < 3 → f i = some (.int .i64 ([a, b, c].getD i 0)) := by
  intro i hi
  match i, hi with
  | 0, _ => exact h0
  | 1, _ => exact h1
  | 2, _ => exact h2

set_option maxRecDepth 100000 in
set_option maxHeartbeats 2000000 in
theorem text0_any (B B' : Nat) (r : Rd) (vs vr : Value) (w : World) (hn : RdNice r) (hs : w.ownsRow B 62 5 vs r.stops.length (ints r.stops.flatten)) (hr : w.ownsRow B' 64 3 vr r.roads.length (ints r.roads.flatten)) :
    Calls Tryz.prog 11 #[inst r vs vr, .int .i64 0] w fun e w' => e = .returned (.string ⟨(textL r).toArray⟩) ∧ Below w.heap.size w w' := by
  have hns := hn.nstops
  have hnr := hn.nroads
  obtain ⟨aos, caps, rfl, has, hsn⟩ := own_val hs
  obtain ⟨aor, capr, rfl, har, hrn⟩ := own_val hr
  have HS := hide hs
  have HR := hide hr
  have HN := hide hn
  have HAS := hide has
  have HAR := hide har
  have HSN := hide hsn
  have HRN := hide hrn
  have hbits : bits BinOp.and IntKind.i64 0 1 = 0 := by decide
  clear hs hr hn has hsn har hrn
  unfold inst
  go_enter Tryz.func11, Tryz.ntmps11
  go_wp2_with fail
  refine (line0_any _ 5 _ [68] [r.vans, r.load, r.close, r.nodes, r.home] _ rfl (by omega) (by simp) (by simp) HN.out.nums (cells5 (by simp [go_sem]) (by simp [go_sem]) (by simp [go_sem]) (by simp [go_sem]) (by simp [go_sem]))).mono ?_
  rintro e1 w1 ⟨rfl, hb1⟩
  obtain ⟨bx, hbx⟩ : ∃ bx, bx = (w.alloc (.cells #[.int .i64 r.vans, .int .i64 r.load, .int .i64 r.close, .int .i64 r.nodes, .int .i64 r.home, .slice aos r.stops.length caps, .slice aor r.roads.length capr] 28)) := ⟨_, rfl⟩
  have hbw : Below (w.heap.size + 1) bx w1 := by
    rw [hbx]
    exact ((Below.refl _ _).alloc (by simp) _).trans (hb1.mono (by simp))
  have hw1 : Below w.heap.size w w1 := (below2 w _ _).trans (hb1.mono (by simp; omega))
  have hbs : w.heap.size + 1 ≤ bx.heap.size := by rw [hbx]; simp
  have hb5 : bx.cell? ⟨w.heap.size, 5, none⟩ = some (.slice aos r.stops.length caps) := by rw [hbx]; simp [go_sem]
  have hb6 : bx.cell? ⟨w.heap.size, 6, none⟩ = some (.slice aor r.roads.length capr) := by rw [hbx]; simp [go_sem]
  have HB5 := hide hb5
  have HB6 := hide hb6
  have hL : Hid ((headL r).length ≤ 100) := by show _ ≤ _; have := lineL_length [68] [r.vans, r.load, r.close, r.nodes, r.home]; simp at this; unfold headL; omega
  have hL' : (lineL [68] [r.vans, r.load, r.close, r.nodes, r.home]).length ≤ 100 := hL.out
  clear hb1 hbx hb5 hb6
  have HW1 := hide hw1
  have HBW := hide hbw
  clear hw1 hbw
  go_wp2_with fail
  go_loopw [5, 6, 7] (fun s q i wr => ∃ (k : Nat) (t : List UInt8), q = .int .i64 0 ∧ i = .int .i64 k ∧ s = .string ⟨t.toArray⟩ ∧ k ≤ r.stops.length ∧ t.length ≤ 100 + 50 * k ∧ Hid (t = headL r ++ stopsL (r.stops.take k)) ∧ Hid (Below w.heap.size w wr) ∧ Hid (Below (w.heap.size + 1) bx wr)) (fun _ _ i _ => r.stops.length - (intOf i).toNat)
  case atStart => exact ⟨0, _, rfl, rfl, rfl, by omega, by omega, by show _ = _; simp [stopsL, headL], HW1, HBW⟩
  case round =>
    clear HW1 HBW
    obtain ⟨k, t, rfl, rfl, rfl, hk, ht, HT, HW, HBW⟩ := hrel
    have d5 : wr.cell? ⟨w.heap.size, 5, none⟩ = some (.slice aos r.stops.length caps) := (HBW.out.cell (by simp)).trans HB5.out
    have hsz : w.heap.size + 1 ≤ wr.heap.size := Nat.le_trans hbs HBW.out.size
    by_cases hlt : k < r.stops.length
    · obtain ⟨g, rfl, hgl⟩ := some_of HAS.out HSN.out (by omega)
      obtain ⟨a, b, c, d, e, hab⟩ := five (HN.out.stops _ (List.getElem_mem hlt)).1
      have hsm := (HN.out.stops _ (List.getElem_mem hlt)).2
      have hcl : ∀ j z, j < 5 → r.stops[k][j]? = some z → wr.cell? ⟨g, k * 5 + j, none⟩ = some (.int .i64 z) := by
        intro j z hj hz
        rw [HW.out.cell (by exact hgl), HS.out.cellAt (k * 5 + j) (by omega)]
        exact flat_ints (fun s hs => (HN.out.stops s hs).1) hlt hj hz
      have HT' := stopsL_snoc hlt
      rw [hab] at hsm hcl HT'
      have HAB := hide hab
      clear hab
      have x0 : wr.cell? ⟨g, k * 5, none⟩ = some (.int .i64 a) := hcl 0 a (by omega) rfl
      have x1 : wr.cell? ⟨g, k * 5 + 1, none⟩ = some (.int .i64 b) := hcl 1 b (by omega) rfl
      have x2 : wr.cell? ⟨g, k * 5 + 2, none⟩ = some (.int .i64 c) := hcl 2 c (by omega) rfl
      have x3 : wr.cell? ⟨g, k * 5 + 3, none⟩ = some (.int .i64 d) := hcl 3 d (by omega) rfl
      have x4 : wr.cell? ⟨g, k * 5 + 4, none⟩ = some (.int .i64 e) := hcl 4 e (by omega) rfl
      have HSM := hide hsm
      have HT2 := hide HT'
      clear hcl hsm HT'
      go_wp2_with fail
      refine (line0_any _ 5 _ [83] [a, b, c, d, e] _ rfl (by omega) (by simp) (by simp) HSM.out (cells5 (by simp [go_sem]) (by simp [go_sem]) (by simp [go_sem]) (by simp [go_sem]) (by simp [go_sem]))).mono ?_
      rintro e2 w2 ⟨rfl, hb2⟩
      have hll : (lineL [83] [a, b, c, d, e]).length ≤ 50 := by have := lineL_length [83] [a, b, c, d, e]; simp at this; omega
      have HW2 : Hid (Below wr.heap.size wr w2) := (below2 wr _ _).trans (hb2.mono (by simp; omega))
      clear hb2 x0 x1 x2 x3 x4 d5
      go_wp2
      go_roundw
      case rel =>
        refine ⟨k + 1, t ++ lineL [83] [a, b, c, d, e], rfl, by go_num, ?_, by omega, ?_, ?_, ?_, ?_⟩
        · rw [← ba_append]
        · simp; omega
        · show _ = _; rw [HT.out, HT2.out]; simp
        · exact HW.out.trans (HW2.out.mono (by omega))
        · exact HBW.out.trans (HW2.out.mono (by omega))
      case measure => simp [intOf]; omega
    · have hke : k = r.stops.length := by omega
      subst hke
      have HT' : Hid (t = headL r ++ stopsL r.stops) := by show _ = _; rw [HT.out, List.take_length]
      clear HT
      go_wp2_with fail
      go_loopw [5, 11] (fun s i wx => ∃ (k : Nat) (q : List UInt8), i = .int .i64 k ∧ s = .string ⟨q.toArray⟩ ∧ k ≤ r.roads.length ∧ q.length ≤ 500 + 50 * k ∧ Hid (q = t ++ roadsL (r.roads.take k)) ∧ Hid (Below w.heap.size w wx) ∧ Hid (Below (w.heap.size + 1) bx wx)) (fun _ i _ => r.roads.length - (intOf i).toNat)
      case atStart => exact ⟨0, t, rfl, rfl, by omega, by omega, by show _ = _; simp [roadsL], HW, HBW⟩
      case round =>
        clear HW HBW d5 hsz
        obtain ⟨k, q, rfl, rfl, hk, hq, HQ, HW, HBW⟩ := hrel
        have d6 : wr.cell? ⟨w.heap.size, 6, none⟩ = some (.slice aor r.roads.length capr) := (HBW.out.cell (by simp)).trans HB6.out
        have hsz : w.heap.size + 1 ≤ wr.heap.size := Nat.le_trans hbs HBW.out.size
        by_cases hlt : k < r.roads.length
        · obtain ⟨g, rfl, hgl⟩ := some_of HAR.out HRN.out (by omega)
          obtain ⟨a, b, c, hab⟩ := three (HN.out.roads _ (List.getElem_mem hlt)).1
          have hsm := (HN.out.roads _ (List.getElem_mem hlt)).2
          have hcl : ∀ j z, j < 3 → r.roads[k][j]? = some z → wr.cell? ⟨g, k * 3 + j, none⟩ = some (.int .i64 z) := by
            intro j z hj hz
            rw [HW.out.cell (by exact hgl), HR.out.cellAt (k * 3 + j) (by omega)]
            exact flat_ints (fun s hs => (HN.out.roads s hs).1) hlt hj hz
          have HQ' := roadsL_snoc hlt
          rw [hab] at hsm hcl HQ'
          clear hab
          have x0 : wr.cell? ⟨g, k * 3, none⟩ = some (.int .i64 a) := hcl 0 a (by omega) rfl
          have x1 : wr.cell? ⟨g, k * 3 + 1, none⟩ = some (.int .i64 b) := hcl 1 b (by omega) rfl
          have x2 : wr.cell? ⟨g, k * 3 + 2, none⟩ = some (.int .i64 c) := hcl 2 c (by omega) rfl
          have HSM := hide hsm
          have HQ2 := hide HQ'
          clear hcl hsm HQ'
          go_wp2_with fail
          go_region_held3 (fun w' => w'.cell? ⟨w.heap.size, 6, none⟩ = some (.slice (some ⟨g, 0, none⟩) r.roads.length capr) ∧ w'.cell? ⟨g, k * 3, none⟩ = some (.int .i64 a) ∧ w'.cell? ⟨g, k * 3 + 1, none⟩ = some (.int .i64 b) ∧ w'.cell? ⟨g, k * 3 + 2, none⟩ = some (.int .i64 c)) (go_keep)
            (first
              | (go_at_call 21; refine (line0_any _ 3 _ [82] [a, b, c] _ rfl (by omega) (by simp) (by simp) HSM.out (cells3 (by simp [go_sem]) (by simp [go_sem]) (by simp [go_sem]))).mono ?_; rintro e2 w2 ⟨rfl, hb2⟩; obtain ⟨hw2, _, _⟩ := box_facts (w := wr) hb2 rfl rfl rfl rfl; have HW2 := hide hw2; have k6 := (hw2.cell (p := ⟨w.heap.size, 6, none⟩) (by exact hsz)).trans d6; have k0 := (hw2.cell (p := ⟨g, k * 3, none⟩) (by show g < _; omega)).trans x0; have k1 := (hw2.cell (p := ⟨g, k * 3 + 1, none⟩) (by show g < _; omega)).trans x1; have k2 := (hw2.cell (p := ⟨g, k * 3 + 2, none⟩) (by show g < _; omega)).trans x2; clear hw2 hb2))
          have hll : (lineL [82] [a, b, c]).length ≤ 50 := by have := lineL_length [82] [a, b, c]; simp at this; omega
          clear k6 k0 k1 k2 x0 x1 x2 d6
          go_wp2
          go_roundw
          case rel =>
            refine ⟨k + 1, q ++ lineL [82] [a, b, c], by go_num, ?_, by omega, ?_, ?_, ?_, ?_⟩
            · rw [← ba_append]
            · simp; omega
            · show _ = _; rw [HQ.out, HQ2.out]; simp
            · exact HW.out.trans (HW2.out.mono (by omega))
            · exact HBW.out.trans (HW2.out.mono (by omega))
          case measure => simp [intOf]; omega
        · go_wp2
          go_ret
          have hke : k = r.roads.length := by omega
          subst hke
          refine ⟨retS ?_, HW.out⟩
          rw [HQ.out, HT'.out, List.take_length]; rfl
end Go.Proofs.YtebinaopncclgabGreatDoor
namespace Go.Proofs.YtebinaopncclgabGreatDoor
open Go.RowKit Go.IntWalk

def yCells (r : Rd) (vs vr : Value) : Array Value := #[.int .i64 r.vans, .int .i64 r.load, .int .i64 r.close, .int .i64 r.nodes, .int .i64 r.home, vs, vr]
/- the instance in its variable, its lists -/
structure YIs (w : World) (yb B : Nat) (r : Rd) (vs vr : Value) : Prop where
  heap : w.heap[yb]? = some (.cells (yCells r vs vr) 28 (0, 0))
  stops : w.ownsRow B 62 5 vs r.stops.length (ints r.stops.flatten)
  roads : w.ownsRow B 64 3 vr r.roads.length (ints r.roads.flatten)
theorem y_cells {w : World} {yb B : Nat} {r : Rd} {vs vr : Value} (h : YIs w yb B r vs vr) :
    w.cell? ⟨yb, 0, none⟩ = some (.int .i64 r.vans) ∧ w.cell? ⟨yb, 1, none⟩ = some (.int .i64 r.load) ∧ w.cell? ⟨yb, 2, none⟩ = some (.int .i64 r.close) ∧ w.cell? ⟨yb, 3, none⟩ = some (.int .i64 r.nodes) ∧ w.cell? ⟨yb, 4, none⟩ = some (.int .i64 r.home) ∧
    w.cell? ⟨yb, 5, none⟩ = some vs ∧ w.cell? ⟨yb, 6, none⟩ = some vr ∧ w.frozen? ⟨yb, 6, none⟩ = false ∧ yb < w.heap.size := by
  refine ⟨?_, ?_, ?_, ?_, ?_, ?_, ?_, frozen_of_row w yb 6 _ _ h.heap, (Array.getElem?_eq_some_iff.1 h.heap).1⟩ <;> (rw [cell_of_row w yb _ _ _ _ h.heap]; rfl)
theorem YIs.below {w w' : World} {yb B : Nat} {r : Rd} {vs vr : Value} (h : YIs w yb B r vs vr) (hb : Below w.heap.size w w') : YIs w' yb B r vs vr :=
  ⟨by rw [hb.block yb (Array.getElem?_eq_some_iff.1 h.heap).1]; exact h.heap, own_below h.stops hb, own_below h.roads hb⟩
theorem y_new {w : World} {B : Nat} {r : Rd} {vs vr : Value} (hs : w.ownsRow B 62 5 vs r.stops.length (ints r.stops.flatten)) (hr : w.ownsRow B 64 3 vr r.roads.length (ints r.roads.flatten)) :
    YIs (w.alloc (.cells (yCells r vs vr) 28)) w.heap.size B r vs vr := ⟨heap_alloc_new w _, hs.alloc _, hr.alloc _⟩
theorem ways_text {r : Rd} (h : RdOk r) (w : World) :
    Calls Tryz.prog 22 #[.string ⟨(textL r).toArray⟩] w fun e w' => ∃ v, e = .returned (.tuple #[v, .int .i64 0]) ∧ Grid w' w.heap.size v (r.stops.length + 1) (fun i j => wayF r (siteN r i) (siteN r j)) ∧ Below w.heap.size w w' := by
  refine ways_ok ⟨(textL r).toArray⟩ r w ?_ ?_ h
  · have := textL_length h; show (textL r).toArray.size ≤ _; unfold maxLen; simp; omega
  · show parseS (textL r).toArray.toList = _; simpa using parse_text h
theorem came_below {w W : World} {ao : Option Addr} {n size : Nat} {S : Nat → Nat → Int} (h : Came w ao n size S) (hb : Below w.heap.size w W) : Came W ao n size S := fun hn => by
  obtain ⟨b, o, e, hl, hc⟩ := h hn
  have := hb.size
  exact ⟨b, o, e, by omega, fun i j hi hj => ⟨by rw [hb.cell (p := ⟨b, o + i * size + j, none⟩) hl]; exact (hc i j hi hj).1, (hc i j hi hj).2⟩⟩
end Go.Proofs.YtebinaopncclgabGreatDoor
