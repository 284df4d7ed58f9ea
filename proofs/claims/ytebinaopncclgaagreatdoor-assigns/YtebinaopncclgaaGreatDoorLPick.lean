/- Walks: the document's sum of the cells that are picked. -/
import Derived.Test.YtebinaopncclgaaGreatDoorABest
import Derived.Test.YtebinaopncclgaaGreatDoorLSum
namespace Go.Proofs.YtebinaopncclgaaGreatDoor
open Go.RowKit Go.IntWalk

theorem Tryz.infoBool : (Tryz.prog.info? 4).map (fun i => (i.zero, i.size, i.bytes)) = some (some (.bool false), 1, 1) := by kernel_rfl
/- a row of marks -/
def BRow (w : World) (g n : Nat) (S : Nat → Bool) : Prop := ∃ cs, w.heap[g]? = some (.cells cs 4 (0, 0)) ∧ cs.size = n ∧ ∀ i, i < n → cs[i]? = some (.bool (S i))
theorem BRow.lt {w : World} {g n : Nat} {S : Nat → Bool} (h : BRow w g n S) : g < w.heap.size := by obtain ⟨cs, hc, _⟩ := h; exact (Array.getElem?_eq_some_iff.1 hc).1
theorem BRow.cell {w : World} {g n i : Nat} {S : Nat → Bool} (h : BRow w g n S) (hi : i < n) : w.cell? ⟨g, i, none⟩ = some (.bool (S i)) := by
  obtain ⟨cs, hc, _, hf⟩ := h
  rw [cell_of_row _ _ _ _ _ _ hc]; exact hf i hi
theorem BRow.frozen {w : World} {g n : Nat} {S : Nat → Bool} (h : BRow w g n S) (k : Nat) : w.frozen? ⟨g, k, none⟩ = false := by obtain ⟨cs, hc, _⟩ := h; exact frozen_of_row w g k _ _ hc
theorem BRow.block {w w' : World} {g n : Nat} {S : Nat → Bool} (h : BRow w g n S) (hb : w'.heap[g]? = w.heap[g]?) : BRow w' g n S := by
  obtain ⟨cs, hc, h2⟩ := h; exact ⟨cs, hb.trans hc, h2⟩
theorem BRow.put {w : World} {g n k : Nat} {S : Nat → Bool} (h : BRow w g n S) (hk : k < n) (x : Bool) : BRow (w.setCell ⟨g, k, none⟩ (.bool x)) g n (up1 S k x) := by
  have h0 := h.cell hk
  obtain ⟨cs, hc, hs, hf⟩ := id h
  have hb := heap_setCell_same w g k cs 4 (.bool x) hc
  refine ⟨_, hb, by simpa using hs, fun i hi => ?_⟩
  have h1 := net_cells hc h0 (.bool x) (h.cell hi)
  rw [cell_of_row _ _ _ _ _ _ hb] at h1
  rw [h1]
  unfold up1
  by_cases e : i = k
  · rw [if_pos e, if_pos e]
  · rw [if_neg e, if_neg e]
theorem BRow.made {w : World} {B g n : Nat} (h : w.ownsRow B 4 1 (.slice (some ⟨g, 0, none⟩) n n) n (madeCells #[Value.bool false] n).toList) : BRow w g n (fun _ => false) := by
  obtain ⟨_, cur, h1, h2, h3⟩ := own_row h
  refine ⟨cur, h1, h2, fun j hj => ?_⟩
  rw [h3 j hj, toList_madeCells_one, List.getElem?_replicate, if_pos hj]
/- the columns seen so far -/
def snS (col : Nat → Int) : Nat → Nat → Bool
  | 0 => fun _ => false
  | k + 1 => up1 (snS col k) (col k).toNat true
theorem snS_at (col : Nat → Int) : ∀ k j, snS col k j = true → ∃ i, i < k ∧ (col i).toNat = j := by
  intro k
  induction k with
  | zero => intro j h; cases h
  | succ k ih =>
    intro j h
    unfold snS up1 at h
    by_cases e : j = (col k).toNat
    · exact ⟨k, by omega, e.symm⟩
    · rw [if_neg e] at h
      obtain ⟨i, h1, h2⟩ := ih j h
      exact ⟨i, by omega, h2⟩
theorem snS_fresh {n : Nat} {C : Nat → Nat → Int} {col u v : Nat → Int} {cost : Int} (h : Tight n C col u v cost) {k : Nat} (hk : k < n) : snS col k (col k).toNat = false := by
  cases hs : snS col k (col k).toNat
  · rfl
  · obtain ⟨i, h1, h2⟩ := snS_at col k _ hs
    obtain ⟨a, ha, _⟩ := h.tcol i (by omega)
    obtain ⟨b, hb, _⟩ := h.tcol k hk
    have := h.one i k (by omega) hk (by rw [ha, hb] at h2 ⊢; simp at h2; rw [h2])
    omega

end Go.Proofs.YtebinaopncclgaaGreatDoor
namespace Go.Proofs.YtebinaopncclgaaGreatDoor
open Go.RowKit Go.IntWalk

set_option maxRecDepth 100000 in
set_option maxHeartbeats 4000000 in
theorem rpicked_any (n : Nat) (C : Nat → Nat → Int) (vc vk : Value) (col u v : Nat → Int) (cost : Int) (w : World) (hsq : SqI w vc n C) (hcol : IRow w vk n col) (hc : CellOk n C) (ht : Tight n C col u v cost) :
    Calls Tryz.prog 84 #[vc, vk] w fun e w' => e = .returned (.int .i64 cost) ∧ Below w.heap.size w w' := by
  obtain ⟨i0, hi, hz0, hz1, hz2⟩ := info_parts Tryz.infoBool
  obtain ⟨af, cf, rfl, hn, hq⟩ := hsq
  obtain ⟨ak, ck, rfl, hk⟩ := hcol
  have HQ := hid hq
  have HK := hid hk
  have HTG := hid ht
  have HC := hid hc
  clear hq hk ht hc
  go_enter Tryz.func84, Tryz.ntmps84
  go_wp2_with (first
    | (at_make; refine wpList_make_full _ rfl _ _ 212 rfl w.heap.size 4 i0 (.bool false) 1 Tryz.underlying212 hi hz0 hz1 .i64 .i64 _ _ n rfl rfl ?q1 ?q2 ?q3 ?q4 ?q5 ?_)
    | go_in)
  case q1 => rfl
  case q2 => rfl
  case q3 => rw [hz2]; omega
  case q4 => unfold maxLen; omega
  case q5 => exact Nat.le_refl _
  intro w2 hown2 hgrow2
  have HB2 : Hid (Below w.heap.size w w2) := (Below.refl _ _).grown hgrow2 (Nat.le_refl _) (by simp)
  have HN2 : Hid (BRow w2 w.heap.size n (snS col 0)) := BRow.made (B := w.heap.size) (by simpa using hown2)
  obtain ⟨ct, hct⟩ : ∃ ct : Nat → Int, ct = fun k => sumL (fun i => C i (col i).toNat) (List.range k) := ⟨_, rfl⟩
  have HC0 : Hid (ct 0 = 0) := by show _ = _; rw [hct]; rfl
  have HC1 : Hid (∀ k, ct (k + 1) = ct k + C k (col k).toNat) := fun k => by rw [hct]; simp [List.range_succ, sumL_append, sumL]
  have HCN : Hid (ct n = cost) := by show _ = _; rw [hct]; exact HTG.out.tcost.symm
  clear hown2 hgrow2 hct
  go_wp2_with go_in
  go_loopw [5, 7] (fun cv i wr => ∃ k : Nat, k ≤ n ∧ i = .int .i64 k ∧ cv = .int .i64 (ct k) ∧ (-(k : Int) * 1000000000 ≤ ct k ∧ ct k ≤ (k : Int) * 1000000000) ∧ Hid (BRow wr w.heap.size n (snS col k)) ∧ Hid (Below w.heap.size w wr)) (fun _ i _ => n - (intOf i).toNat)
  case atStart => exact ⟨0, Nat.zero_le _, rfl, by rw [HC0.out], by rw [HC0.out]; omega, HN2, HB2⟩
  case round =>
    clear HN2 HB2
    obtain ⟨k, hk, rfl, rfl, hcb, HN, HB⟩ := hrel
    by_cases hlt : k < n
    · obtain ⟨kn, hkn, hknn, hopen⟩ := HTG.out.tcol k hlt
      obtain ⟨kb, ko, hak, hkb, hkc⟩ := HK.out k hlt
      subst hak
      obtain ⟨b, o, b', o', ci, hao, hbl, hcl, hbl', hrow⟩ := HQ.out k hlt
      subst hao
      have r1 : wr.cell? ⟨kb, ko + k, none⟩ = _ := (HB.out.cell (by exact hkb)).trans hkc
      have l1 : kb < wr.heap.size := Nat.lt_of_lt_of_le hkb HB.out.size
      have q1 : wr.cell? ⟨b, o + k, none⟩ = _ := (HB.out.cell (by exact hbl)).trans hcl
      have l4 : b < wr.heap.size := Nat.lt_of_lt_of_le hbl HB.out.size
      have q2 : wr.cell? ⟨b', o' + kn, none⟩ = _ := (HB.out.cell (by exact hbl')).trans (hrow kn hknn)
      have l5 : b' < wr.heap.size := Nat.lt_of_lt_of_le hbl' HB.out.size
      have s0 := HN.out.cell hknn
      have sf := HN.out.frozen kn
      have l6 := HN.out.lt
      have hfresh := snS_fresh HTG.out hlt
      have HSS : Hid (snS col (k + 1) = up1 (snS col k) kn true) := by show up1 _ _ _ = _; rw [hkn]; simp
      rw [hkn] at r1 hfresh
      simp only [Int.toNat_natCast] at hfresh
      rw [hfresh] at s0
      have HCK : Hid (ct (k + 1) = ct k + C k kn) := by show _ = _; rw [HC1.out, hkn]; simp
      have hcc := HC.out k kn hlt hknn
      have ik : (0 : Int) ≤ (k : Int) := by omega
      have jk : (k : Int) < (n : Int) := by omega
      have ikn : (0 : Int) ≤ (kn : Int) := by omega
      have jkn : (kn : Int) < (n : Int) := by omega
      have c1 : (C k kn == (-1 : Int)) = false := by simpa using hopen
      obtain ⟨d, hd⟩ : ∃ d, d = C k kn := ⟨_, rfl⟩
      obtain ⟨ck2, hck⟩ : ∃ ck2, ck2 = ct k := ⟨_, rfl⟩
      rw [← hd] at q2 hcc c1 HCK
      rw [← hck] at hcb HCK ⊢
      have wz1 : IntKind.i64.wrap (ck2 + d) = ck2 + d := i64_fits _ (by omega)
      have d1 : decide ((kn : Int) < 0) = false := by simp
      have d2 : decide (n ≤ kn) = false := by simp; omega
      have q1s : ∀ y, (wr.setCell ⟨w.heap.size, kn, none⟩ y).cell? ⟨b, o + k, none⟩ = _ := fun y => (Below.cell (B := w.heap.size) ((Below.refl _ _).setCell (by exact Nat.le_refl _) y) (by exact hbl)).trans q1
      have q2s : ∀ y, (wr.setCell ⟨w.heap.size, kn, none⟩ y).cell? ⟨b', o' + kn, none⟩ = _ := fun y => (Below.cell (B := w.heap.size) ((Below.refl _ _).setCell (by exact Nat.le_refl _) y) (by exact hbl')).trans q2
      clear hkn hopen hfresh hrow hd hck hkc hcl
      go_wp2_with go_in
      go_roundw
      case rel => exact ⟨k + 1, by omega, by go_num, by rw [HCK.out], by rw [HCK.out]; omega, by rw [HSS.out]; exact HN.out.put hknn true, HB.out.setCell (by exact Nat.le_refl _) _⟩
      case measure => simp [intOf]; omega
    · have hke : k = n := by omega
      have HCE : Hid (ct k = cost) := by show _ = _; rw [hke]; exact HCN.out
      have hc1 := HCE.out
      rw [hc1]
      clear hcb hke hc1
      go_wp2_with go_in
      go_ret
      exact ⟨rfl, HB.out⟩
end Go.Proofs.YtebinaopncclgaaGreatDoor
