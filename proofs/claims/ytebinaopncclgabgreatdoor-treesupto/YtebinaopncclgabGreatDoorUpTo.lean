/- Walks of the statements: a script. -/
import Derived.Test.YtebinaopncclgabGreatDoorPlay
namespace Go.Proofs.YtebinaopncclgabGreatDoor
open Go.RowKit Go.IntWalk

/- no row that is held lies in the block of the list of lists -/
def Sep (vi : Value) (R : List Value) : Prop := ∀ i (h : i < R.length), ∀ g c, R[i] = .slice (some ⟨g, 0, none⟩) c c → 0 < c → vi.ownBlock ≠ some g
/- what is held: so many lists of numbers, so many of each other kind -/
def HoldInvB (w : World) (bb hb a m : Nat) : Prop :=
  ∃ vi vr vs vd vn I R S D N, HoldIs w bb w.heap.size hb vi vr vs vd vn I R S D N ∧ S.length = D.length ∧ I.length ≤ a ∧ R.length ≤ m ∧ S.length ≤ m ∧ N.length ≤ m ∧ Sep vi R
theorem HoldInvB.below {w w' : World} {bb hb a m : Nat} (h : HoldInvB w bb hb a m) (hb' : Below w.heap.size w w') : HoldInvB w' bb hb a m := by
  obtain ⟨vi, vr, vs, vd, vn, I, R, S, D, N, h1, h2⟩ := h
  exact ⟨vi, vr, vs, vd, vn, I, R, S, D, N, h1.below hb' hb'.size, h2⟩
theorem HoldInvB.more {w : World} {bb hb a a' m m' : Nat} (h : HoldInvB w bb hb a m) (ha : a ≤ a') (hm : m ≤ m') : HoldInvB w bb hb a' m' := by
  obtain ⟨vi, vr, vs, vd, vn, I, R, S, D, N, h1, h2, h3, h4, h5, h6, h7⟩ := h
  exact ⟨vi, vr, vs, vd, vn, I, R, S, D, N, h1, h2, by omega, by omega, by omega, by omega, h7⟩
theorem hold_noneB (w : World) : HoldInvB (w.alloc (.cells #[.slice none 0 0, .slice none 0 0, .slice none 0 0, .slice none 0 0, .slice none 0 0] 55)) w.heap.size w.heap.size 0 0 :=
  ⟨_, _, _, _, _, [], [], [], [], [], ⟨heap_alloc_new w _, Nat.le_refl _, World.ownsRow_nil _ _ _ _, World.ownsRow_nil _ _ _ _, World.ownsRow_nil _ _ _ _, World.ownsRow_nil _ _ _ _, World.ownsRow_nil _ _ _ _, fun i h => absurd h (by simp), fun i h => absurd h (by simp), fun i h => absurd h (by simp), fun i h => absurd h (by simp), fun i h => absurd h (by simp)⟩, rfl, by simp, by simp, by simp, by simp, fun i h => absurd h (by simp)⟩
theorem stillB (bb hb a m : Nat) (w : World) (h : HoldInvB w bb hb a m) : Calls Tryz.prog 20 #[.pointer (some ⟨hb, 0, none⟩)] w fun e w' => e = .returned (.bool true) ∧ Below w.heap.size w w' := by
  obtain ⟨vi, vr, vs, vd, vn, I, R, S, D, N, h1, h2, _⟩ := h
  exact still_walk bb w.heap.size hb vi vr vs vd vn I R S D N w h1 h2
/- what is held, behind m steps -/
def HoldInv (w : World) (bb hb m : Nat) : Prop :=
  ∃ vi vr vs vd vn I R S D N, HoldIs w bb w.heap.size hb vi vr vs vd vn I R S D N ∧ S.length = D.length ∧ I.length ≤ 8 * m ∧ R.length ≤ m ∧ S.length ≤ m ∧ N.length ≤ m ∧ Sep vi R
theorem HoldInv.below {w w' : World} {bb hb m : Nat} (h : HoldInv w bb hb m) (hb' : Below w.heap.size w w') : HoldInv w' bb hb m := HoldInvB.below (a := 8 * m) h hb'
theorem HoldInv.more {w : World} {bb hb m m' : Nat} (h : HoldInv w bb hb m) (hm : m ≤ m') : HoldInv w bb hb m' := HoldInvB.more (a := 8 * m) (a' := 8 * m') h (by omega) hm

/- a script that came in -/
def ScriptAt (w : World) (ao : Option Addr) (n : Nat) (ops : Nat → OpV) : Prop :=
  0 < n → ∃ b o, ao = some ⟨b, o, none⟩ ∧ b < w.heap.size ∧ ∀ i j, i < n → j < 14 → w.cell? ⟨b, o + i * 14 + j, none⟩ = (ops i).vals[j]?

/- the same with what is held counted otherwise -/
def PlaysBy (w0 : World) (hb : Nat) (o : OpV) (a m a' m' : Nat) : Prop := ∀ w : World, HoldInvB w w0.heap.size hb a m → Below w0.heap.size w0 w →
  Calls Tryz.prog 19 #[.pointer (some ⟨hb, 0, none⟩), .agg o.vals] w fun e w' => e = .returned (.bool true) ∧ HoldInvB w' w0.heap.size hb a' m' ∧ Below w0.heap.size w w'

set_option maxRecDepth 100000 in
set_option maxHeartbeats 1000000 in
theorem upto_walk_by (lo hi : Int) (ao : Option Addr) (n c : Nat) (ops : Nat → OpV) (A Z : Nat → Nat) (w : World) (hn : n ≤ 703687441776) (hs : ScriptAt w ao n ops) (hZ : ∀ k, k < n → A k ≤ A (k + 1) ∧ Z k ≤ Z (k + 1))
    (hp : ∀ i, i < n → lo ≤ (ops i).k → (ops i).k ≤ hi → PlaysBy w w.heap.size (ops i) (A i) (Z i) (A (i + 1)) (Z (i + 1))) :
    Calls Tryz.prog 9 #[.slice ao n c, .int .i64 lo, .int .i64 hi] w fun e w' => e = .returned (.int .i64 (-1)) ∧ Below w.heap.size w w' := by
  have HS := hid hs
  have HP := hid hp
  have HI : Hid (HoldInvB (w.alloc (.cells #[.slice none 0 0, .slice none 0 0, .slice none 0 0, .slice none 0 0, .slice none 0 0] 55)) w.heap.size w.heap.size 0 0) := hold_noneB w
  have HZ := hid hZ
  clear hs hp hZ
  go_enter Tryz.func9, Tryz.ntmps9
  go_wp2_with fail
  go_loopw [8] (fun i wr => ∃ k : Nat, i = .int .i64 k ∧ k ≤ n ∧ Hid (HoldInvB wr w.heap.size w.heap.size (A k) (Z k)) ∧ Hid (Below w.heap.size w wr)) (fun i _ => n - (intOf i).toNat)
  case atStart => exact ⟨0, rfl, by omega, HI.out.more (Nat.zero_le _) (Nat.zero_le _), below1 w _⟩
  case round =>
    clear HI
    obtain ⟨k, rfl, hk, HI, HB⟩ := hrel
    by_cases hlt : k < n
    · obtain ⟨b, off, rfl, hbl, hc⟩ := HS.out (by omega)
      have hcl : ∀ j, j < 14 → wr.cell? ⟨b, off + k * 14 + j, none⟩ = (ops k).vals[j]? := fun j hj => (HB.out.cell (by exact hbl)).trans (hc k j hlt hj)
      have HPK := hid (HP.out k hlt)
      have hbr : b < wr.heap.size := by have := HB.out.size; omega
      generalize ops k = o at *
      have c0 : wr.cell? ⟨b, off + k * 14, none⟩ = some (.int .i64 o.k) := hcl 0 (by omega)
      have c1 : wr.cell? ⟨b, off + k * 14 + 1, none⟩ = some (.int .i64 o.n) := hcl 1 (by omega)
      have c2 : wr.cell? ⟨b, off + k * 14 + 2, none⟩ = some (.string o.s) := hcl 2 (by omega)
      have c3 : wr.cell? ⟨b, off + k * 14 + 3, none⟩ = some (.string o.t) := hcl 3 (by omega)
      have c4 : wr.cell? ⟨b, off + k * 14 + 4, none⟩ = some (.string o.u) := hcl 4 (by omega)
      have c5 : wr.cell? ⟨b, off + k * 14 + 5, none⟩ = some (.slice o.am o.nm o.cm) := hcl 5 (by omega)
      have c6 : wr.cell? ⟨b, off + k * 14 + 6, none⟩ = some (.int .i64 o.x0) := hcl 6 (by omega)
      have c7 : wr.cell? ⟨b, off + k * 14 + 7, none⟩ = some (.int .i64 o.x1) := hcl 7 (by omega)
      have c8 : wr.cell? ⟨b, off + k * 14 + 8, none⟩ = some (.int .i64 o.x2) := hcl 8 (by omega)
      have c9 : wr.cell? ⟨b, off + k * 14 + 9, none⟩ = some (.int .i64 o.x3) := hcl 9 (by omega)
      have c10 : wr.cell? ⟨b, off + k * 14 + 10, none⟩ = some (.int .i64 o.x4) := hcl 10 (by omega)
      have c11 : wr.cell? ⟨b, off + k * 14 + 11, none⟩ = some (.slice o.aS o.nS o.cS) := hcl 11 (by omega)
      have c12 : wr.cell? ⟨b, off + k * 14 + 12, none⟩ = some (.slice o.aR o.nR o.cR) := hcl 12 (by omega)
      have c13 : wr.cell? ⟨b, off + k * 14 + 13, none⟩ = some (.slice o.aL o.nL o.cL) := hcl 13 (by omega)
      clear hcl hc
      have HI1 : Hid (HoldInvB (wr.alloc (.cells o.vals 58)) w.heap.size w.heap.size (A k) (Z k)) := HI.out.below (below1 wr _)
      have HB1 : Hid (Below w.heap.size w (wr.alloc (.cells o.vals 58))) := HB.out.trans ((below1 wr _).mono HB.out.size)
      by_cases h1 : lo ≤ o.k
      · by_cases h2 : o.k ≤ hi
        · have HC := hid (HPK.out h1 h2 _ HI1.out HB1.out)
          unfold OpV.vals at HC
          go_wp2_with fail
          refine HC.out.mono ?_
          rintro e2 w2 ⟨rfl, hi2, hb2⟩
          have HI2 := hid hi2
          have HB2 : Hid (Below w.heap.size w w2) := HB1.out.trans hb2
          clear hi2 hb2 HC HI1 HB1 c0 c1 c2 c3 c4 c5 c6 c7 c8 c9 c10 c11 c12 c13
          go_wp2_with fail
          refine (stillB _ _ _ _ w2 HI2.out).mono ?_
          rintro e3 w3 ⟨rfl, hb3⟩
          have HI3 := hid (HI2.out.below hb3)
          have HB3 : Hid (Below w.heap.size w w3) := HB2.out.trans (hb3.mono HB2.out.size)
          clear hb3 HI2 HB2
          go_wp2
          go_roundw
          case rel => exact ⟨k + 1, by go_num, by omega, HI3, HB3⟩
          case measure => simp [intOf]; omega
        · go_wp2
          go_roundw
          case rel => exact ⟨k + 1, by go_num, by omega, HI1.out.more (HZ.out k hlt).1 (HZ.out k hlt).2, HB1⟩
          case measure => simp [intOf]; omega
      · go_wp2
        go_roundw
        case rel => exact ⟨k + 1, by go_num, by omega, HI1.out.more (HZ.out k hlt).1 (HZ.out k hlt).2, HB1⟩
        case measure => simp [intOf]; omega
    · go_wp2
      go_ret
      exact ⟨rfl, HB.out⟩
end Go.Proofs.YtebinaopncclgabGreatDoor
