/- Walks: an instance is bent into one that may be. -/
import Derived.Test.YtebinaopncclgabParse
import Derived.Test.YtebinaopncclgabPlainG
namespace Go.Proofs.Ytebinaopncclgab
open Go.RowKit Go.IntWalk

/- a list of structs that came in: its cells, of whatever address -/
def Came (w : World) (ao : Option Addr) (n size : Nat) (S : Nat → Nat → Int) : Prop :=
  0 < n → ∃ b o, ao = some ⟨b, o, none⟩ ∧ b < w.heap.size ∧ ∀ i j, i < n → j < size → w.cell? ⟨b, o + i * size + j, none⟩ = some (.int .i64 (S i j)) ∧ -9223372036854775808 ≤ S i j ∧ S i j ≤ 9223372036854775807

/- the three boxes of the call: what came in, the result, the one that is made -/
def BnIs (w wr : World) (xs ys : Array Value) : Prop :=
  wr.heap[w.heap.size]? = some (.cells xs 25 (0, 0)) ∧ wr.heap[w.heap.size + 1]? = some (.cells zero7 25 (0, 0)) ∧ wr.heap[w.heap.size + 1 + 1]? = some (.cells ys 25 (0, 0)) ∧ Below w.heap.size w wr
theorem bn_size {w wr : World} {xs ys : Array Value} (h : BnIs w wr xs ys) : w.heap.size + 3 ≤ wr.heap.size := (Array.getElem?_eq_some_iff.1 h.2.2.1).1
theorem bn_keep {w wr w' : World} {xs ys : Array Value} (h : BnIs w wr xs ys) (hk : Keep [38, 40] wr w') (hb : Below w.heap.size wr w') : BnIs w w' xs ys :=
  ⟨hk _ _ _ _ h.1 (by decide), hk _ _ _ _ h.2.1 (by decide), hk _ _ _ _ h.2.2.1 (by decide), h.2.2.2.trans hb⟩

def ys7 (V L C N H : Int) (vs vr : Value) : Array Value := #[.int .i64 V, .int .i64 L, .int .i64 C, .int .i64 N, .int .i64 H, vs, vr]
theorem bn_cells {w wr : World} {xs : Array Value} {V L C N H V' L' C' N' H' : Int} {vs vr vs' vr' : Value} (hx : xs = ys7 V' L' C' N' H' vs' vr') (h : BnIs w wr xs (ys7 V L C N H vs vr)) :
    wr.cell? ⟨w.heap.size, 5, none⟩ = some vs' ∧ wr.cell? ⟨w.heap.size, 6, none⟩ = some vr' ∧ wr.cell? ⟨w.heap.size + 1 + 1, 3, none⟩ = some (.int .i64 N) ∧ wr.cell? ⟨w.heap.size + 1 + 1, 5, none⟩ = some vs ∧ wr.cell? ⟨w.heap.size + 1 + 1, 6, none⟩ = some vr ∧ ∀ o, wr.frozen? ⟨w.heap.size + 1 + 1, o, none⟩ = false := by
  subst hx
  exact ⟨by rw [cell_of_row wr _ 5 _ _ _ h.1]; rfl, by rw [cell_of_row wr _ 6 _ _ _ h.1]; rfl, by rw [cell_of_row wr _ 3 _ _ _ h.2.2.1]; rfl, by rw [cell_of_row wr _ 5 _ _ _ h.2.2.1]; rfl, by rw [cell_of_row wr _ 6 _ _ _ h.2.2.1]; rfl, fun o => frozen_of_row wr _ o _ _ h.2.2.1⟩
theorem news_b {w X : World} {cs : Array Value} {t : TypeId} {l : List Value} {b : Nat} (hh : X.heap = (w.alloc (.cells cs t)).heap) (hl : l = cs.toList) (hb : w.heap.size = b) : ∀ j u, l[j]? = some u → X.cell? ((⟨b, 0, none⟩ : Addr).add j) = some u := by
  subst hb; exact news_at hl hh
theorem bn_start (w : World) (xs ys : Array Value) (_u : Unit) : BnIs w (((w.alloc (.cells xs 25)).alloc (.cells zero7 25)).alloc (.cells ys 25)) xs ys := by
  refine ⟨?_, ?_, ?_, (below2 w _ _).alloc (by simp; omega) _⟩
  · rw [Below.heap_alloc _ _ _ (by simp; omega), Below.heap_alloc _ _ _ (by simp)]; exact heap_alloc_new w _
  · rw [Below.heap_alloc _ _ _ (by simp)]; have := heap_alloc_new (w.alloc (.cells xs 25)) (.cells zero7 25); simpa using this
  · have := heap_alloc_new ((w.alloc (.cells xs 25)).alloc (.cells zero7 25)) (.cells ys 25); simpa using this
theorem bn_y {w wr : World} {xs : Array Value} {V L C N H : Int} {vs vr : Value} (h : BnIs w wr xs (ys7 V L C N H vs vr)) :
    wr.cell? ⟨w.heap.size + 1 + 1, 0, none⟩ = some (.int .i64 V) ∧ wr.cell? ⟨w.heap.size + 1 + 1, 1, none⟩ = some (.int .i64 L) ∧ wr.cell? ⟨w.heap.size + 1 + 1, 2, none⟩ = some (.int .i64 C) ∧ wr.cell? ⟨w.heap.size + 1 + 1, 3, none⟩ = some (.int .i64 N) ∧ wr.cell? ⟨w.heap.size + 1 + 1, 4, none⟩ = some (.int .i64 H) ∧ wr.cell? ⟨w.heap.size + 1 + 1, 5, none⟩ = some vs ∧ wr.cell? ⟨w.heap.size + 1 + 1, 6, none⟩ = some vr := by
  refine ⟨?_, ?_, ?_, ?_, ?_, ?_, ?_⟩ <;> (rw [cell_of_row wr _ _ _ _ _ h.2.2.1]; rfl)
/- behind an append onto one of the lists, and the store of it -/
theorem bn_append {w wr X w1 : World} {xs : Array Value} {V L C N H : Int} {vs vr v v' : Value} {B k size : Nat} {e : TypeId} {zs : List Value} {q : Nat} (hg : X.grownBy w1 v.ownBlock) (hB : BnIs w wr xs (ys7 V L C N H vs vr)) (hX : Below wr.heap.size wr X) (hv : wr.ownsRow B e size v k zs) (hBs : w.heap.size ≤ B)
    (he : e ∈ [38, 40]) : BnIs w w1 xs (ys7 V L C N H vs vr) ∧ BnIs w (w1.setCell ⟨w.heap.size + 1 + 1, q, none⟩ v') xs ((ys7 V L C N H vs vr).setIfInBounds q v') := by
  have hs := bn_size hB
  have h1 : BnIs w w1 xs (ys7 V L C N H vs vr) := by
    refine bn_keep hB ((Keep.of_below hX).trans (Keep.grown (own_below hv hX) he hg)) ?_
    exact (hX.mono (by omega)).trans ((Below.refl _ _).grown hg (by have := hX.size; omega) (fun k hk => by have := (hv.lt k hk).1; omega))
  refine ⟨h1, ?_, ?_, heap_setCell_same w1 _ q _ _ _ h1.2.2.1, h1.2.2.2.setCell (by show w.heap.size ≤ w.heap.size + 1 + 1; omega) _⟩
  · rw [Below.heap_setCell _ _ _ _ (by show w.heap.size ≠ w.heap.size + 1 + 1; omega)]; exact h1.1
  · rw [Below.heap_setCell _ _ _ _ (by show w.heap.size + 1 ≠ w.heap.size + 1 + 1; omega)]; exact h1.2.1
theorem own_yb {w w1 : World} {xs ys : Array Value} {B k size q : Nat} {e : TypeId} {v u : Value} {zs : List Value} (h : BnIs w w1 xs ys) (hv : w1.ownsRow B e size v k zs) (he : e ≠ 25) : (w1.setCell ⟨w.heap.size + 1 + 1, q, none⟩ u).ownsRow B e size v k zs := own_setCell hv h.2.2.1 he u

set_option maxRecDepth 100000 in
set_option maxHeartbeats 2000000 in
theorem Bent_any (X : Nat → Int) (S T : Nat → Nat → Int) (aS aR : Option Addr) (n m cn cm : Nat) (w : World) (hX : ∀ i, i < 5 → -9223372036854775808 ≤ X i ∧ X i ≤ 9223372036854775807) (hn : n ≤ 9223372036854775807) (hm : m ≤ 9223372036854775807)
    (hS : Came w aS n 5 S) (hT : Came w aR m 3 T) :
    Calls Try.prog 4 #[.agg #[.int .i64 (X 0), .int .i64 (X 1), .int .i64 (X 2), .int .i64 (X 3), .int .i64 (X 4), .slice aS n cn, .slice aR m cm]] w fun e w' =>
      ∃ vs vr, e = .returned (inst (bentR X S T n m) vs vr) ∧ w'.ownsRow w.heap.size 38 5 vs (bentR X S T n m).stops.length (ints (bentR X S T n m).stops.flatten) ∧ w'.ownsRow w.heap.size 40 3 vr (bentR X S T n m).roads.length (ints (bentR X S T n m).roads.flatten) ∧ Below w.heap.size w w' := by
  obtain ⟨i0, hi, hz0, hz1, hz2⟩ := info_parts Try.infoStop
  obtain ⟨j0, hj, hy0, hy1, hy2⟩ := info_parts Try.infoRoad
  have HS := hide hS
  have HT := hide hT
  have x0 := hX 0 (by omega)
  have x1 := hX 1 (by omega)
  have x2 := hX 2 (by omega)
  have x3 := hX 3 (by omega)
  have x4 := hX 4 (by omega)
  clear hS hT hX
  have HR : Hid (bentR X S T n m = { vans := bentS (X 0) 1 3, load := bentS (X 1) 0 10000, close := bentS (X 2) 0 10000, nodes := bentS (X 3) 1 12, home := bentS (X 4) 0 (bentS (X 3) 1 12 - 1), stops := bstops (bentS (X 3) 1 12) S (min n 7), roads := broads (bentS (X 3) 1 12) T (min m 40), head := true }) := rfl
  generalize bentR X S T n m = R at *
  have hN := bentS_range (X 3) 1 12 (by omega)
  generalize X 0 = v at *
  generalize X 1 = l at *
  generalize X 2 = c at *
  generalize X 4 = h at *
  generalize X 3 = nn at *
  go_enter Try.func4, Try.ntmps4
  go_wp2_with (go_at_call 9; refine (bent_any _ _ _ _ (by omega) (by omega) (by omega) (by omega) (by omega)).mono ?_; rintro e w' ⟨rfl, rfl⟩)
  obtain ⟨xs, hxs⟩ : ∃ xs, xs = ys7 v l c nn h (.slice aS n cn) (.slice aR m cm) := ⟨_, rfl⟩
  have HXS := hide hxs
  have hI : BnIs w (((w.alloc (.cells (ys7 v l c nn h (.slice aS n cn) (.slice aR m cm)) 25)).alloc (.cells zero7 25)).alloc (.cells (ys7 (bentS v 1 3) (bentS l 0 10000) (bentS c 0 10000) (bentS nn 1 12) (bentS h 0 (bentS nn 1 12 - 1)) (.slice none 0 0) (.slice none 0 0)) 25)) xs (ys7 (bentS v 1 3) (bentS l 0 10000) (bentS c 0 10000) (bentS nn 1 12) (bentS h 0 (bentS nn 1 12 - 1)) (.slice none 0 0) (.slice none 0 0)) := by
    rw [hxs]; exact bn_start _ _ _ ()
  have HI := hide hI
  clear hI hxs
  have hVr := bentS_range v 1 3 (by omega)
  generalize bentS v 1 3 = V at *
  generalize bentS l 0 10000 = L at *
  generalize bentS c 0 10000 = C at *
  generalize bentS h 0 (bentS nn 1 12 - 1) = H at *
  generalize bentS nn 1 12 = N at *
  go_loopw [4] (fun i wr => ∃ (k : Nat) (vs : Value), i = .int .i64 k ∧ k ≤ n ∧ k ≤ 7 ∧ Hid (BnIs w wr xs (ys7 V L C N H vs (.slice none 0 0))) ∧ Hid (wr.ownsRow (w.heap.size + 3) 38 5 vs k (ints (bstops N S k).flatten))) (fun i _ => 7 - (intOf i).toNat)
  case atStart => exact ⟨0, _, rfl, by omega, by omega, HI, World.ownsRow_nil _ _ _ _⟩
  case round =>
    clear HI
    obtain ⟨k, vs, rfl, hkn, hk7, HI, HO⟩ := hrel
    obtain ⟨d5, d6, y3, y5, y6, yf⟩ := bn_cells HXS.out HI.out
    have hsz := bn_size HI.out
    by_cases hlt : k < n ∧ k < 7
    · obtain ⟨hl1, hl2⟩ := hlt
      obtain ⟨b, o, rfl, hb, hc⟩ := HS.out (by omega)
      obtain ⟨avs, cvs, rfl, _, _⟩ := own_val HO.out
      have hcl : ∀ j, j < 5 → wr.cell? ⟨b, o + k * 5 + j, none⟩ = some (.int .i64 (S k j)) := fun j hj => (HI.out.2.2.2.cell (by exact hb)).trans (hc k j hl1 hj).1
      have z0 : wr.cell? ⟨b, o + k * 5, none⟩ = some (.int .i64 (S k 0)) := hcl 0 (by omega)
      have z1 : wr.cell? ⟨b, o + k * 5 + 1, none⟩ = some (.int .i64 (S k 1)) := hcl 1 (by omega)
      have z2 : wr.cell? ⟨b, o + k * 5 + 2, none⟩ = some (.int .i64 (S k 2)) := hcl 2 (by omega)
      have z3 : wr.cell? ⟨b, o + k * 5 + 3, none⟩ = some (.int .i64 (S k 3)) := hcl 3 (by omega)
      have z4 : wr.cell? ⟨b, o + k * 5 + 4, none⟩ = some (.int .i64 (S k 4)) := hcl 4 (by omega)
      have q0 := (hc k 0 hl1 (by omega)).2
      have q1 := (hc k 1 hl1 (by omega)).2
      have q2 := (hc k 2 hl1 (by omega)).2
      have q3 := (hc k 3 hl1 (by omega)).2
      have q4 := (hc k 4 hl1 (by omega)).2
      have HSS : Hid (bstop N (S k) = [bentS (S k 0) 0 (N - 1), bentS (S k 1) 0 10000, bentS (S k 2) 0 10000, bentS (S k 3) (bentS (S k 2) 0 10000) 10000, bentS (S k 4) 0 10000]) := rfl
      clear hc hcl d6 y6
      have hbl : b < wr.heap.size := by omega
      have hyl : w.heap.size + 1 + 1 < wr.heap.size := by omega
      have hxl : w.heap.size < wr.heap.size := by omega
      have hxm : w.heap.size + 1 < wr.heap.size := by omega
      have hym : w.heap.size + 1 + 1 < wr.heap.size + 1 := by omega
      generalize S k 0 = a0 at *
      generalize S k 1 = a1 at *
      generalize S k 2 = a2 at *
      generalize S k 3 = a3 at *
      generalize S k 4 = a4 at *
      have hr2 := bentS_range a2 0 10000 (by omega)
      go_wp2_with (first
        | (go_at_call 9; refine (bent_any _ _ _ _ (by omega) (by omega) (by omega) (by omega) (by omega)).mono ?_; rintro e w' ⟨rfl, rfl⟩)
        | (at_builtin; refine wpList_append_own _ rfl _ _ 22 rfl (w.heap.size + 3) 38 i0 (.agg #[.int .i64 0, .int .i64 0, .int .i64 0, .int .i64 0, .int .i64 0]) 5 40 Try.underlying22 hi hz0 hz1 hz2 rfl (by decide) _ _ _ rfl (((HO.out.alloc _).alloc _).alloc _) ⟨wr.heap.size + 1 + 1, 0, none⟩ 1 1 [.int .i64 (bentS a0 0 (N - 1)), .int .i64 (bentS a1 0 10000), .int .i64 (bentS a2 0 10000), .int .i64 (bentS a3 (bentS a2 0 10000) 10000), .int .i64 (bentS a4 0 10000)] rfl rfl ?c1 ?c2 ?c3 ?c4 ?c5 ?_))
      case c1 => exact news_b (w := (wr.alloc _).alloc _) rfl rfl (by simp)
      case c2 => exact ints5 _ _ _ _ _
      case c3 => unfold maxLen; omega
      case c4 => omega
      case c5 => simp; omega
      intro v' w1 hown' hgrow _
      have HO' := hide hown'
      obtain ⟨g5, cap5, cur5, hv5, _, _, _⟩ := own_shape hown' (by omega)
      subst hv5
      obtain ⟨hB1, hB2⟩ := bn_append (q := 5) (v' := .slice (some ⟨g5, 0, none⟩) (k + 1) cap5) hgrow HI.out (((below2 wr _ _)).alloc (by simp; omega) _) HO.out (by omega) (by decide)
      obtain ⟨_, _, _, w5, _, wf⟩ := bn_cells HXS.out hB1
      have HB1 := hide hB1
      have HB2 := hide hB2
      clear hown' hgrow hB1 hB2 z0 z1 z2 z3 z4 q0 q1 q2 q3 q4
      go_wp2
      go_roundw
      case rel =>
        refine ⟨k + 1, .slice (some ⟨g5, 0, none⟩) (k + 1) cap5, by go_num, by omega, by omega, HB2.out, ?_⟩
        have h := own_yb (q := 5) (u := .slice (some ⟨g5, 0, none⟩) (k + 1) cap5) HB1.out HO'.out (by decide)
        show World.ownsRow _ _ _ _ _ _ _
        rw [bstops_succ, ints_flat_snoc, HSS.out]; exact h
      case measure => simp [intOf]; omega
    · have hkm : k = min n 7 := by omega
      have HO' : Hid (wr.ownsRow (w.heap.size + 3) 38 5 vs k (ints (bstops N S k).flatten)) := HO
      have HKM := hide hkm
      clear hkm HO
      obtain ⟨avs, cvs, rfl, _, _⟩ := own_val HO'.out
      clear d6 y3 y5 y6 yf
      by_cases hA : k < n
      · have e1 : decide ((k : Int) < (n : Int)) = true := by simp; omega
        have e2 : decide ((k : Int) < 7) = false := by simp; omega
        go_wp2_with fail
        go_loopw [7] (fun i wx => ∃ (p : Nat) (vr : Value), i = .int .i64 p ∧ p ≤ m ∧ p ≤ 40 ∧ Hid (BnIs w wx xs (ys7 V L C N H (.slice avs k cvs) vr)) ∧ Hid (wx.ownsRow (w.heap.size + 3) 38 5 (.slice avs k cvs) k (ints (bstops N S k).flatten)) ∧ Hid (wx.ownsRow (w.heap.size + 3) 40 3 vr p (ints (broads N T p).flatten))) (fun i _ => 40 - (intOf i).toNat)
        case atStart => exact ⟨0, _, rfl, by omega, by omega, HI, HO', World.ownsRow_nil _ _ _ _⟩
        case round =>
          clear HI HO' d5 hsz
          obtain ⟨p, vr, rfl, hpm, hp40, HI, HO, HP⟩ := hrel
          obtain ⟨d5, d6, y3, y5, y6, yf⟩ := bn_cells HXS.out HI.out
          have hsz := bn_size HI.out
          by_cases hlt : p < m ∧ p < 40
          · obtain ⟨hl1, hl2⟩ := hlt
            obtain ⟨b, o, rfl, hb, hc⟩ := HT.out (by omega)
            obtain ⟨avr, cvr, rfl, _, _⟩ := own_val HP.out
            have hcl : ∀ j, j < 3 → wr.cell? ⟨b, o + p * 3 + j, none⟩ = some (.int .i64 (T p j)) := fun j hj => (HI.out.2.2.2.cell (by exact hb)).trans (hc p j hl1 hj).1
            have z0 : wr.cell? ⟨b, o + p * 3, none⟩ = some (.int .i64 (T p 0)) := hcl 0 (by omega)
            have z1 : wr.cell? ⟨b, o + p * 3 + 1, none⟩ = some (.int .i64 (T p 1)) := hcl 1 (by omega)
            have z2 : wr.cell? ⟨b, o + p * 3 + 2, none⟩ = some (.int .i64 (T p 2)) := hcl 2 (by omega)
            have q0 := (hc p 0 hl1 (by omega)).2
            have q1 := (hc p 1 hl1 (by omega)).2
            have q2 := (hc p 2 hl1 (by omega)).2
            have HSS : Hid (broad N (T p) = [bentS (T p 0) 0 (N - 1), bentS (T p 1) 0 (N - 1), bentS (T p 2) 0 10000]) := rfl
            clear hc hcl d5 y5
            have hbl : b < wr.heap.size := by omega
            have hyl : w.heap.size + 1 + 1 < wr.heap.size := by omega
            have hxl : w.heap.size < wr.heap.size := by omega
            have hxm : w.heap.size + 1 < wr.heap.size := by omega
            have hym : w.heap.size + 1 + 1 < wr.heap.size + 1 := by omega
            generalize T p 0 = a0 at *
            generalize T p 1 = a1 at *
            generalize T p 2 = a2 at *
            go_wp2_with (first
              | (go_at_call 9; refine (bent_any _ _ _ _ (by omega) (by omega) (by omega) (by omega) (by omega)).mono ?_; rintro e w' ⟨rfl, rfl⟩)
              | (at_builtin; refine wpList_append_own _ rfl _ _ 23 rfl (w.heap.size + 3) 40 j0 (.agg #[.int .i64 0, .int .i64 0, .int .i64 0]) 3 24 Try.underlying23 hj hy0 hy1 hy2 rfl (by decide) _ _ _ rfl (((HP.out.alloc _).alloc _).alloc _) ⟨wr.heap.size + 1 + 1, 0, none⟩ 1 1 [.int .i64 (bentS a0 0 (N - 1)), .int .i64 (bentS a1 0 (N - 1)), .int .i64 (bentS a2 0 10000)] rfl rfl ?c1 ?c2 ?c3 ?c4 ?c5 ?_))
            case c1 => exact news_b (w := (wr.alloc _).alloc _) rfl rfl (by simp)
            case c2 => exact ints3 _ _ _
            case c3 => unfold maxLen; omega
            case c4 => omega
            case c5 => simp; omega
            intro v' w1 hown' hgrow _
            have HP' := hide hown'
            have HO1 : Hid (w1.ownsRow (w.heap.size + 3) 38 5 (.slice avs k cvs) k (ints (bstops N S k).flatten)) :=
              (((HO.out.alloc _).alloc _).alloc _).kept hgrow (own_ne HO.out HP.out (by decide))
            obtain ⟨g5, cap5, cur5, hv5, _, _, _⟩ := own_shape hown' (by omega)
            subst hv5
            obtain ⟨hB1, hB2⟩ := bn_append (q := 6) (v' := .slice (some ⟨g5, 0, none⟩) (p + 1) cap5) hgrow HI.out (((below2 wr _ _)).alloc (by simp; omega) _) HP.out (by omega) (by decide)
            obtain ⟨_, _, _, _, w6, wf⟩ := bn_cells HXS.out hB1
            have HB1 := hide hB1
            have HB2 := hide hB2
            clear hown' hgrow hB1 hB2 z0 z1 z2 q0 q1 q2
            go_wp2
            go_roundw
            case rel =>
              refine ⟨p + 1, .slice (some ⟨g5, 0, none⟩) (p + 1) cap5, by go_num, by omega, by omega, HB2.out, own_yb HB1.out HO1.out (by decide), ?_⟩
              have h := own_yb (q := 6) (u := .slice (some ⟨g5, 0, none⟩) (p + 1) cap5) HB1.out HP'.out (by decide)
              show World.ownsRow _ _ _ _ _ _ _
              rw [broads_succ, ints_flat_snoc, HSS.out]; exact h
            case measure => simp [intOf]; omega
          · have hpm' : p = min m 40 := by omega
            have HP' : Hid (wr.ownsRow (w.heap.size + 3) 40 3 vr p (ints (broads N T p).flatten)) := HP
            have HPM := hide hpm'
            clear hpm' HP
            obtain ⟨avr, cvr, rfl, _, _⟩ := own_val HP'.out
            obtain ⟨b0, b1, b2, b3, b4, b5, b6, hfz⟩ := box7 HI.out.2.1
            obtain ⟨c0, c1, c2, c3, c4, c5, c6⟩ := bn_y HI.out
            clear y3 y5 y6 yf d5
            go_wp2
            all_goals
              rw [HR.out]
              refine bodyPost_ret (v := .agg #[.int .i64 V, .int .i64 L, .int .i64 C, .int .i64 N, .int .i64 H, .slice avs k cvs, .slice avr p cvr]) (by simp [results, Try.results4, go_sem, b0, b1, b2, b3, b4, b5, b6]) rfl ?_
              refine ⟨.slice avs k cvs, .slice avr p cvr, rfl, ?_, ?_, HI.out.2.2.2.trans (below_put7 _ _ _ (by show w.heap.size ≤ w.heap.size + 1; omega) _ _ _ _ _ _ _)⟩
              · rw [bstops_length, ← HKM.out]; exact own_put7 HI.out.2.1 (own_base HO.out (show w.heap.size ≤ w.heap.size + 3 by omega)) (by decide)
              · rw [broads_length, ← HPM.out]; exact own_put7 HI.out.2.1 (own_base HP'.out (show w.heap.size ≤ w.heap.size + 3 by omega)) (by decide)
      · have e1 : decide ((k : Int) < (n : Int)) = false := by simp; omega
        go_wp2_with fail
        go_loopw [7] (fun i wx => ∃ (p : Nat) (vr : Value), i = .int .i64 p ∧ p ≤ m ∧ p ≤ 40 ∧ Hid (BnIs w wx xs (ys7 V L C N H (.slice avs k cvs) vr)) ∧ Hid (wx.ownsRow (w.heap.size + 3) 38 5 (.slice avs k cvs) k (ints (bstops N S k).flatten)) ∧ Hid (wx.ownsRow (w.heap.size + 3) 40 3 vr p (ints (broads N T p).flatten))) (fun i _ => 40 - (intOf i).toNat)
        case atStart => exact ⟨0, _, rfl, by omega, by omega, HI, HO', World.ownsRow_nil _ _ _ _⟩
        case round =>
          clear HI HO' d5 hsz
          obtain ⟨p, vr, rfl, hpm, hp40, HI, HO, HP⟩ := hrel
          obtain ⟨d5, d6, y3, y5, y6, yf⟩ := bn_cells HXS.out HI.out
          have hsz := bn_size HI.out
          by_cases hlt : p < m ∧ p < 40
          · obtain ⟨hl1, hl2⟩ := hlt
            obtain ⟨b, o, rfl, hb, hc⟩ := HT.out (by omega)
            obtain ⟨avr, cvr, rfl, _, _⟩ := own_val HP.out
            have hcl : ∀ j, j < 3 → wr.cell? ⟨b, o + p * 3 + j, none⟩ = some (.int .i64 (T p j)) := fun j hj => (HI.out.2.2.2.cell (by exact hb)).trans (hc p j hl1 hj).1
            have z0 : wr.cell? ⟨b, o + p * 3, none⟩ = some (.int .i64 (T p 0)) := hcl 0 (by omega)
            have z1 : wr.cell? ⟨b, o + p * 3 + 1, none⟩ = some (.int .i64 (T p 1)) := hcl 1 (by omega)
            have z2 : wr.cell? ⟨b, o + p * 3 + 2, none⟩ = some (.int .i64 (T p 2)) := hcl 2 (by omega)
            have q0 := (hc p 0 hl1 (by omega)).2
            have q1 := (hc p 1 hl1 (by omega)).2
            have q2 := (hc p 2 hl1 (by omega)).2
            have HSS : Hid (broad N (T p) = [bentS (T p 0) 0 (N - 1), bentS (T p 1) 0 (N - 1), bentS (T p 2) 0 10000]) := rfl
            clear hc hcl d5 y5
            have hbl : b < wr.heap.size := by omega
            have hyl : w.heap.size + 1 + 1 < wr.heap.size := by omega
            have hxl : w.heap.size < wr.heap.size := by omega
            have hxm : w.heap.size + 1 < wr.heap.size := by omega
            have hym : w.heap.size + 1 + 1 < wr.heap.size + 1 := by omega
            generalize T p 0 = a0 at *
            generalize T p 1 = a1 at *
            generalize T p 2 = a2 at *
            go_wp2_with (first
              | (go_at_call 9; refine (bent_any _ _ _ _ (by omega) (by omega) (by omega) (by omega) (by omega)).mono ?_; rintro e w' ⟨rfl, rfl⟩)
              | (at_builtin; refine wpList_append_own _ rfl _ _ 23 rfl (w.heap.size + 3) 40 j0 (.agg #[.int .i64 0, .int .i64 0, .int .i64 0]) 3 24 Try.underlying23 hj hy0 hy1 hy2 rfl (by decide) _ _ _ rfl (((HP.out.alloc _).alloc _).alloc _) ⟨wr.heap.size + 1 + 1, 0, none⟩ 1 1 [.int .i64 (bentS a0 0 (N - 1)), .int .i64 (bentS a1 0 (N - 1)), .int .i64 (bentS a2 0 10000)] rfl rfl ?c1 ?c2 ?c3 ?c4 ?c5 ?_))
            case c1 => exact news_b (w := (wr.alloc _).alloc _) rfl rfl (by simp)
            case c2 => exact ints3 _ _ _
            case c3 => unfold maxLen; omega
            case c4 => omega
            case c5 => simp; omega
            intro v' w1 hown' hgrow _
            have HP' := hide hown'
            have HO1 : Hid (w1.ownsRow (w.heap.size + 3) 38 5 (.slice avs k cvs) k (ints (bstops N S k).flatten)) :=
              (((HO.out.alloc _).alloc _).alloc _).kept hgrow (own_ne HO.out HP.out (by decide))
            obtain ⟨g5, cap5, cur5, hv5, _, _, _⟩ := own_shape hown' (by omega)
            subst hv5
            obtain ⟨hB1, hB2⟩ := bn_append (q := 6) (v' := .slice (some ⟨g5, 0, none⟩) (p + 1) cap5) hgrow HI.out (((below2 wr _ _)).alloc (by simp; omega) _) HP.out (by omega) (by decide)
            obtain ⟨_, _, _, _, w6, wf⟩ := bn_cells HXS.out hB1
            have HB1 := hide hB1
            have HB2 := hide hB2
            clear hown' hgrow hB1 hB2 z0 z1 z2 q0 q1 q2
            go_wp2
            go_roundw
            case rel =>
              refine ⟨p + 1, .slice (some ⟨g5, 0, none⟩) (p + 1) cap5, by go_num, by omega, by omega, HB2.out, own_yb HB1.out HO1.out (by decide), ?_⟩
              have h := own_yb (q := 6) (u := .slice (some ⟨g5, 0, none⟩) (p + 1) cap5) HB1.out HP'.out (by decide)
              show World.ownsRow _ _ _ _ _ _ _
              rw [broads_succ, ints_flat_snoc, HSS.out]; exact h
            case measure => simp [intOf]; omega
          · have hpm' : p = min m 40 := by omega
            have HP' : Hid (wr.ownsRow (w.heap.size + 3) 40 3 vr p (ints (broads N T p).flatten)) := HP
            have HPM := hide hpm'
            clear hpm' HP
            obtain ⟨avr, cvr, rfl, _, _⟩ := own_val HP'.out
            obtain ⟨b0, b1, b2, b3, b4, b5, b6, hfz⟩ := box7 HI.out.2.1
            obtain ⟨c0, c1, c2, c3, c4, c5, c6⟩ := bn_y HI.out
            clear y3 y5 y6 yf d5
            go_wp2
            all_goals
              rw [HR.out]
              refine bodyPost_ret (v := .agg #[.int .i64 V, .int .i64 L, .int .i64 C, .int .i64 N, .int .i64 H, .slice avs k cvs, .slice avr p cvr]) (by simp [results, Try.results4, go_sem, b0, b1, b2, b3, b4, b5, b6]) rfl ?_
              refine ⟨.slice avs k cvs, .slice avr p cvr, rfl, ?_, ?_, HI.out.2.2.2.trans (below_put7 _ _ _ (by show w.heap.size ≤ w.heap.size + 1; omega) _ _ _ _ _ _ _)⟩
              · rw [bstops_length, ← HKM.out]; exact own_put7 HI.out.2.1 (own_base HO.out (show w.heap.size ≤ w.heap.size + 3 by omega)) (by decide)
              · rw [broads_length, ← HPM.out]; exact own_put7 HI.out.2.1 (own_base HP'.out (show w.heap.size ≤ w.heap.size + 3 by omega)) (by decide)
end Go.Proofs.Ytebinaopncclgab
