/- Walks of the statements: a square is held. -/
import Derived.Test.YtebinaopncclgaaGreatDoorAppW
import Derived.Test.YtebinaopncclgaaGreatDoorUpTo
import Derived.Test.YtebinaopncclgaaGreatDoorWaysZ
import Derived.Deep.AppendLies
namespace Go.Proofs.YtebinaopncclgaaGreatDoor
open Go.RowKit Go.IntWalk

theorem fill1 {w : World} {g c k : Nat} {t : TypeId} {cur : Array Value} {u0 : Value} {P : Nat → Value → Prop} (h : w.heap[g]? = some (.cells cur t (0, 0))) (hz : cur.size = c) (hk : k < c) (hp : ∀ j, j < k → ∃ u, cur[j]? = some u ∧ P 0 u) (p0 : P 0 u0) :
    ∃ cur', (w.setCell ⟨g, k, none⟩ u0).heap[g]? = some (.cells cur' t (0, 0)) ∧ cur'.size = c ∧ ∀ j, j < k + 1 → ∃ u, cur'[j]? = some u ∧ P 0 u := by
  have k1 := heap_setCell_same w g k _ _ u0 h
  refine ⟨_, k1, by simp [hz], fun j hj => ?_⟩
  simp only [Array.getElem?_setIfInBounds]
  by_cases hjk : j = k
  · subst hjk; exact ⟨u0, by simp [hz]; omega, p0⟩
  · rw [if_neg (by omega)]; exact hp j (by omega)

/- the list is held: what was appended, stored and written; the blocks of the rows that are held are none of these -/
theorem hold_int {w X w1 wr : World} {bb bd bd' hb : Nat} {vi vr vs vd vn v' s : Value} {I R S D N : List Value} (h : HoldIs w bb bd hb vi vr vs vd vn I R S D N) (hX : Below w.heap.size w X) (hg1 : X.grownBy w1 vi.ownBlock) (ho : w1.ownsRow bb 53 1 v' (I.length + 1) (I ++ [s]))
    (hg2 : (w1.setCell ⟨hb, 0, none⟩ v').grownBy wr s.ownBlock) (hs : ∀ k, s.ownBlock = some k → (∀ i (h : i < I.length), ∀ g c, I[i] = .slice (some ⟨g, 0, none⟩) c c → 0 < c → g ≠ k) ∧ ∃ cur, (w1.setCell ⟨hb, 0, none⟩ v').heap[k]? = some (.cells cur 3 (0, 0))) (hf : Full wr bd' 3 1 (isInt I.length) s) (hbd : bd ≤ bd')
    (hr : ∀ i (h : i < R.length), ∀ g c, R[i] = .slice (some ⟨g, 0, none⟩) c c → 0 < c → vi.ownBlock ≠ some g) :
    HoldIs wr bb bd' hb v' vr vs vd vn (I ++ [s]) R S D N := by
  have hX' := h.below hX (Nat.le_refl bd)
  have k1 : Keep [53] X w1 := Keep.grown hX'.oi (by simp) hg1
  have hbox : w1.heap[hb]? = some (.cells #[vi, vr, vs, vd, vn] 32 (0, 0)) := k1 _ _ _ _ hX'.box (by decide)
  have k2 : Keep [32] w1 (w1.setCell ⟨hb, 0, none⟩ v') := Keep.setCell hbox (by simp) v'
  have k3 : Keep [3] (w1.setCell ⟨hb, 0, none⟩ v') wr := grow_keep hg2 (fun k e => (hs k e).2)
  have hbox2 : (w1.setCell ⟨hb, 0, none⟩ v').heap[hb]? = some (.cells #[v', vr, vs, vd, vn] 32 (0, 0)) := heap_setCell_same w1 hb 0 _ _ v' hbox
  have ow : ∀ {e : TypeId} {size n : Nat} {v : Value} {xs : List Value}, X.ownsRow bb e size v n xs → e ∉ [53, 32, 3] → wr.ownsRow bb e size v n xs := by
    intro e size n v xs hv he
    simp only [List.mem_cons, List.not_mem_nil, or_false, not_or] at he
    exact own_keep (own_keep (own_keep hv k1 (by simp [he.1])) k2 (by simp [he.2.1])) k3 (by simp [he.2.2])
  have fl : ∀ {e : TypeId} {size : Nat} {P : Nat → Value → Prop} {v : Value}, Full X bd e size P v → e ∉ [53, 32, 3] → Full wr bd' e size P v := by
    intro e size P v hv he
    simp only [List.mem_cons, List.not_mem_nil, or_false, not_or] at he
    exact ((hv.keep k1 (by simp [he.1]) (Nat.le_refl _)).keep k2 (by simp [he.2.1]) (Nat.le_refl _)).keep k3 (by simp [he.2.2]) hbd
  refine ⟨k3 _ _ _ _ hbox2 (by decide), h.lo, ?_, ow hX'.or (by decide), ow hX'.os (by decide), ow hX'.od (by decide), ow hX'.on (by decide), fun i hi => ?_, fun i hi => ?_, fun i hi => fl (hX'.fs i hi) (by decide), fun i hi => fl (hX'.fd i hi) (by decide), fun i hi => fl (hX'.fn i hi) (by decide)⟩
  · rw [List.length_append]; exact own_keep (own_keep ho k2 (by decide)) k3 (by decide)
  · by_cases hlt : i < I.length
    · rw [List.getElem_append_left hlt]; exact (((hX'.fi i hlt).keep k1 (by decide) (Nat.le_refl _)).keep k2 (by decide) (Nat.le_refl _)).grown hg2 (fun g c e hc e' => (hs g e').1 i hlt g c e hc rfl) hbd
    · have : i = I.length := by simp at hi; omega
      subst this
      rw [List.getElem_append_right (Nat.le_refl _)]; simpa using hf
  · exact (((hX'.fr i hi).grown hg1 (fun g c e hc => hr i hi g c e hc) (Nat.le_refl _)).keep k2 (by decide) (Nat.le_refl _)).keep k3 (by decide) hbd

theorem own_len (a : Option Addr) (n n' c c' : Nat) : (Value.slice a n c).ownBlock = (Value.slice a n' c').ownBlock := by cases a <;> rfl

set_option maxRecDepth 100000 in
set_option maxHeartbeats 1000000 in
theorem list_walk (bb bd hb B n : Nat) (vi vr vs vd vn : Value) (I R S D N : List Value) (us : Value) (zs : List Value) (w : World) (h : HoldIs w bb bd hb vi vr vs vd vn I R S D N) (hI : I.length ≤ 9300000000000) (hbd : bd ≤ w.heap.size) (hbb : bb ≤ w.heap.size) (hsep : Sep vi R)
    (hs : w.ownsRow B 3 1 us n zs) (hfresh : ∀ i (h : i < I.length), ∀ g c, I[i] = .slice (some ⟨g, 0, none⟩) c c → 0 < c → us.ownBlock ≠ some g) :
    Calls Tryz.prog 38 #[.pointer (some ⟨hb, 0, none⟩), us] w fun e w' => ∃ vi' s1, e = .returned (.tuple #[]) ∧ HoldIs w' bb w'.heap.size hb vi' vr vs vd vn (I ++ [s1]) R S D N ∧ Sep vi' R ∧ (vi'.ownBlock = vi.ownBlock ∨ ∃ g, vi'.ownBlock = some g ∧ w.heap.size ≤ g) ∧ s1.ownBlock = us.ownBlock ∧ w.heap.size ≤ w'.heap.size ∧ (∀ k, k < w.heap.size → k ≠ hb → vi.ownBlock ≠ some k → us.ownBlock ≠ some k → w'.heap[k]? = w.heap[k]?) ∧ Below (min bb B) w w' := by
  obtain ⟨i0, hi, hz0, hz1, hz2⟩ := info_parts Tryz.infoInts
  have HH := hid h
  have HSEP := hid hsep
  have HFR := hid hfresh
  obtain ⟨avs, cvs, hvs, _, _⟩ := own_val h.oi
  subst hvs
  have hbl : hb < w.heap.size := (Array.getElem?_eq_some_iff.1 h.box).1
  have c0 : w.cell? ⟨hb, 0, none⟩ = some (.slice avs I.length cvs) := by rw [cell_of_row _ _ _ _ _ _ h.box]; rfl
  have hfz : ∀ o, w.frozen? ⟨hb, o, none⟩ = false := fun o => frozen_of_row w hb o _ _ h.box
  obtain ⟨aus, cus, hus, hle, hroom⟩ := room_of hs
  have HRM := hid hroom
  have hcm := hroom.1
  unfold maxLen at hcm
  subst hus
  clear h hs hroom hsep hfresh
  go_enter Tryz.func38, Tryz.ntmps38
  go_wp2_with (at_builtin; refine wpList_append_lies_wide _ rfl _ _ 26 rfl bb 53 i0 (.slice none 0 0) 24 Tryz.underlying26 hi hz0 hz1 hz2 rfl _ _ _ rfl (HH.out.oi.alloc _) ⟨w.heap.size, 0, none⟩ 1 (.slice aus cus cus) rfl ?c1 rfl ?c3 ?c4 ?c5 (w.heap.size + 1) ?c6 ?_)
  case c1 => exact news_at rfl rfl
  case c3 => unfold maxLen; omega
  case c4 => omega
  case c5 => simp; omega
  case c6 => simp
  intro g5 cap5 w1 hown' hgrow hat hlt5
  obtain ⟨X, hX, hgr⟩ : ∃ X, Below w.heap.size w X ∧ X.grownBy w1 (Value.slice avs I.length cvs).ownBlock := ⟨_, below1 w _, hgrow⟩
  clear hgrow
  have hk1 : Keep [53] X w1 := Keep.grown (own_below HH.out.oi hX) (by simp) hgr
  have hk0 : Keep [53] w w1 := (Keep.of_below hX).trans hk1
  have hbox1 := hk0 _ _ _ _ HH.out.box (by decide)
  have hbl1 : hb < w1.heap.size := (Array.getElem?_eq_some_iff.1 hbox1).1
  have c0' : w1.cell? ⟨hb, 0, none⟩ = some (.slice avs I.length cvs) := by rw [cell_of_row _ _ _ _ _ _ hbox1]; rfl
  have hfz1 : ∀ o, w1.frozen? ⟨hb, o, none⟩ = false := fun o => frozen_of_row w1 hb o _ _ hbox1
  obtain ⟨W2, hW2⟩ : ∃ W2, W2 = w1.setCell ⟨hb, 0, none⟩ (.slice (some ⟨g5, 0, none⟩) (I.length + 1) cap5) := ⟨_, rfl⟩
  have hk2 : Keep [32] w1 W2 := by rw [hW2]; exact Keep.setCell hbox1 (by simp) _
  have hbox2 : W2.heap[hb]? = some (.cells #[.slice (some ⟨g5, 0, none⟩) (I.length + 1) cap5, vr, vs, vd, vn] 32 (0, 0)) := by rw [hW2]; exact heap_setCell_same w1 hb 0 _ _ _ hbox1
  have HRB : Hid (∀ k, (Value.slice aus cus cus).ownBlock = some k → B ≤ k ∧ k < w.heap.size ∧ k ≠ hb ∧ ∃ crr, W2.heap[k]? = some (.cells crr 3 (0, 0))) := fun k e => by
    obtain ⟨h1, crr, h2⟩ := room_block HRM.out k e
    have h3 := hk2 _ _ _ _ (hk0 _ _ _ _ h2 (by decide)) (by decide)
    exact ⟨h1, (Array.getElem?_eq_some_iff.1 h2).1, fun e' => (by rw [e', hbox2] at h3; cases h3), crr, h3⟩
  have HRW : Hid (0 < cus → ∃ g crr, aus = some ⟨g, 0, none⟩ ∧ W2.heap[g]? = some (.cells crr 3 (0, 0)) ∧ crr.size = cus) := fun hc => by
    obtain ⟨g, crr, k1, k2, k3, k4⟩ := HRM.out.2.1 hc
    exact ⟨g, crr, k1, hk2 _ _ _ _ (hk0 _ _ _ _ k3 (by decide)) (by decide), by simpa using k4⟩
  have HGR := hid hgr
  have HX := hid hX
  have HOW := hid hown'
  have HBX := hid hbox2
  have HW2 := hid hW2
  have HAT := hid hat
  clear hgr hX hown' hbox2 hk2 hk0 hk1 hbox1 hat hlt5
  go_wp2_with fail
  rw [← hW2]
  clear hW2
  go_loopw [5] (fun i wr => ∃ k : Nat, i = .int .i64 k ∧ k ≤ cus ∧ Hid (W2.grownBy wr (Value.slice aus cus cus).ownBlock) ∧ Hid (0 < cus → ∃ g crr, aus = some ⟨g, 0, none⟩ ∧ wr.heap[g]? = some (.cells crr 3 (0, 0)) ∧ crr.size = cus ∧ ∀ j, j < k → ∃ u, crr[j]? = some u ∧ isInt I.length 0 u)) (fun i _ => cus - (intOf i).toNat)
  case atStart =>
    refine ⟨0, rfl, by omega, grown_refl _ _, fun hc => ?_⟩
    obtain ⟨g, crr, k1, k4, k5⟩ := HRW.out hc
    exact ⟨g, crr, k1, k4, k5, fun j hj => absurd hj (by omega)⟩
  case round =>
    obtain ⟨k, rfl, hk, HG, HF⟩ := hrel
    have hbw2 : wr.heap[hb]? = _ := (HG.out.block hb (Array.getElem?_eq_some_iff.1 HBX.out).1 (fun e => (HRB.out _ e.symm).2.2.1 rfl)).trans HBX.out
    have hblr : hb < wr.heap.size := (Array.getElem?_eq_some_iff.1 hbw2).1
    have b0 : wr.cell? ⟨hb, 0, none⟩ = some (.slice (some ⟨g5, 0, none⟩) (I.length + 1) cap5) := by rw [cell_of_row _ _ _ _ _ _ hbw2]; rfl
    by_cases hlt : k < cus
    · obtain ⟨g, crr, rfl, hg, hgz, hgp⟩ := HF.out (by omega)
      have e0 : wr.cell? ⟨g, k, none⟩ = some (crr.getD k (.int .i64 0)) := by
        have hq' : k < crr.size := by omega
        rw [cell_of_row _ _ _ _ _ _ hg, Array.getElem?_eq_getElem hq']; simp [Array.getD, hq']
      have ef : ∀ o, wr.frozen? ⟨g, o, none⟩ = false := fun o => frozen_of_row wr g o _ _ hg
      have hgl : g < wr.heap.size := (Array.getElem?_eq_some_iff.1 hg).1
      have hgb : g ≠ hb := (HRB.out g rfl).2.2.1
      have HGZ := hid hgz
      have HGP := hid hgp
      have HGG := hid hg
      clear hgp hgz hg hbw2
      go_wp2_with fail
      go_roundw
      case rel =>
        refine ⟨k + 1, by go_num, by omega, grown_set HG.out _, fun _ => ?_⟩
        obtain ⟨crr', f1, f2, f3⟩ := fill1 (u0 := .int .i64 ((I.length : Int) + 1)) (P := isInt I.length) HGG.out HGZ.out hlt HGP.out (by simp [isInt])
        exact ⟨g, crr', rfl, f1, f2, f3⟩
      case measure => simp [intOf]; omega
    · have hkc : k = cus := by omega
      subst hkc
      have hF1 : Full wr wr.heap.size 3 1 (isInt I.length) (.slice aus k k) := ⟨aus, k, rfl, HRM.out.1, fun hc => by
        obtain ⟨g, crr, rfl, h2, h3, h4⟩ := HF.out hc
        refine ⟨g, crr, rfl, (Array.getElem?_eq_some_iff.1 h2).1, h2, fun j q hj hq => ?_⟩
        obtain rfl : q = 0 := by omega
        rw [Nat.mul_one, Nat.add_zero]; exact h4 j hj⟩
      have hsz : w.heap.size ≤ wr.heap.size := by
        have h2 := HX.out.size; have h3 := HGR.out.size; have h4 := HG.out.size
        have h5 : w1.heap.size ≤ W2.heap.size := by rw [HW2.out]; exact ((Below.refl 0 w1).setCell (Nat.zero_le _) _).size
        omega
      have hH1 := hold_int (bd' := wr.heap.size) HH.out HX.out HGR.out HOW.out (by rw [← HW2.out]; exact HG.out) (fun q e => by
        rw [← HW2.out]
        exact ⟨fun i hi g c e' hc he => HFR.out i hi g c e' hc (by rw [he, own_len aus n k k k]; exact e), (HRB.out q e).2.2.2⟩) hF1 (by omega) HSEP.out
      have hS1 : Sep (.slice (some ⟨g5, 0, none⟩) (I.length + 1) cap5) R := fun i hi g c e hc he => by
        have hg : g5 = g := by simpa [Value.ownBlock] using he
        rcases HAT.out with h1 | h1
        · exact HSEP.out i hi g c e hc (by rw [← hg]; exact h1)
        · have := (HH.out.fr i hi).lt g c e hc; omega
      have hB1 : Below (min bb B) w wr := by
        have h1 : Below (min bb B) w w1 := (HX.out.mono (by omega)).trans ((Below.refl _ _).grown HGR.out (by have := HX.out.size; omega) (fun q hq => by have := (HH.out.oi.lt q hq).1; omega))
        have h2 : Below (min bb B) w W2 := by rw [HW2.out]; exact h1.setCell (by have := HH.out.lo; show min bb B ≤ hb; omega) _
        exact h2.grown HG.out (by have := h2.size; omega) (fun q hq => by have := (HRB.out q hq).1; omega)
      have hL1 : (Value.slice (some ⟨g5, 0, none⟩) (I.length + 1) cap5).ownBlock = (Value.slice avs I.length cvs).ownBlock ∨ ∃ g, (Value.slice (some ⟨g5, 0, none⟩) (I.length + 1) cap5).ownBlock = some g ∧ w.heap.size ≤ g := by
        rcases HAT.out with h1 | h1
        · exact .inl h1.symm
        · exact .inr ⟨g5, rfl, by omega⟩
      have hK1 : ∀ q, q < w.heap.size → q ≠ hb → (Value.slice avs I.length cvs).ownBlock ≠ some q → (Value.slice aus k k).ownBlock ≠ some q → wr.heap[q]? = w.heap[q]? := fun q hq hqb h1 h2 => by
        have hXs := HX.out.size
        have hGs := HGR.out.size
        have h5 : w1.heap.size ≤ W2.heap.size := by rw [HW2.out]; exact ((Below.refl 0 w1).setCell (Nat.zero_le _) _).size
        rw [HG.out.block q (by omega) (fun e => h2 e.symm), HW2.out, Below.heap_setCell _ _ _ _ (by exact hqb), HGR.out.block q (by omega) (fun e => h1 e.symm), HX.out.block q hq]
      have HH2 := hid hH1
      have HS2 := hid hS1
      have HB2 := hid hB1
      have HL2 := hid hL1
      have HK2 := hid hK1
      clear hH1 hS1 hB1 hL1 hK1 hF1 HF HG HRM HRB HRW HBX HX HGR HOW HW2 hbw2 b0
      go_wp2
      refine bodyPost_end (v := .tuple #[]) (by simp [results, Tryz.results38, go_sem]) rfl ?_
      exact ⟨_, _, rfl, HH2.out, HS2.out, HL2.out, own_len _ _ _ _ _, hsz, fun q h1 h2 h3 h4 => HK2.out q h1 h2 h3 (by rw [own_len aus k n k k]; exact h4), HB2.out⟩
end Go.Proofs.YtebinaopncclgaaGreatDoor
namespace Go.Proofs.YtebinaopncclgaaGreatDoor
open Go.RowKit Go.IntWalk

theorem Tryz.infoSqs : (Tryz.prog.info? 26).map (fun i => (i.zero, i.size, i.bytes)) = some (some (.slice none 0 0), 1, 24) := by kernel_rfl
theorem hold_row {w X w1 wr : World} {bb bd bd' hb : Nat} {vi vr vs vd vn v' s : Value} {I R S D N : List Value} (h : HoldIs w bb bd hb vi vr vs vd vn I R S D N) (hX : Below w.heap.size w X) (hg1 : X.grownBy w1 vr.ownBlock) (ho : w1.ownsRow bb 26 1 v' (R.length + 1) (R ++ [s]))
    (hg2 : (w1.setCell ⟨hb, 1, none⟩ v').grownBy wr s.ownBlock) (hs : ∀ k, s.ownBlock = some k → (∀ i (h : i < R.length), ∀ g c, R[i] = .slice (some ⟨g, 0, none⟩) c c → 0 < c → g ≠ k) ∧ ∃ cur, (w1.setCell ⟨hb, 1, none⟩ v').heap[k]? = some (.cells cur 53 (0, 0))) (hf : Full wr bd' 53 1 (isRow R.length) s) (hbd : bd ≤ bd')
    (hv : vi.ownBlock = none ∨ vi.ownBlock ≠ s.ownBlock) :
    HoldIs wr bb bd' hb vi v' vs vd vn I (R ++ [s]) S D N := by
  have hX' := h.below hX (Nat.le_refl bd)
  have k1 : Keep [26] X w1 := Keep.grown hX'.or (by simp) hg1
  have hbox : w1.heap[hb]? = some (.cells #[vi, vr, vs, vd, vn] 32 (0, 0)) := k1 _ _ _ _ hX'.box (by decide)
  have k2 : Keep [32] w1 (w1.setCell ⟨hb, 1, none⟩ v') := Keep.setCell hbox (by simp) v'
  have k3 : Keep [53] (w1.setCell ⟨hb, 1, none⟩ v') wr := grow_keep hg2 (fun k e => (hs k e).2)
  have hbox2 : (w1.setCell ⟨hb, 1, none⟩ v').heap[hb]? = some (.cells #[vi, v', vs, vd, vn] 32 (0, 0)) := heap_setCell_same w1 hb 1 _ _ v' hbox
  have ow : ∀ {e : TypeId} {size n : Nat} {v : Value} {xs : List Value}, X.ownsRow bb e size v n xs → e ∉ [26, 32, 53] → wr.ownsRow bb e size v n xs := by
    intro e size n v xs hv he
    simp only [List.mem_cons, List.not_mem_nil, or_false, not_or] at he
    exact own_keep (own_keep (own_keep hv k1 (by simp [he.1])) k2 (by simp [he.2.1])) k3 (by simp [he.2.2])
  have fl : ∀ {e : TypeId} {size : Nat} {P : Nat → Value → Prop} {v : Value}, Full X bd e size P v → e ∉ [26, 32, 53] → Full wr bd' e size P v := by
    intro e size P v hv he
    simp only [List.mem_cons, List.not_mem_nil, or_false, not_or] at he
    exact ((hv.keep k1 (by simp [he.1]) (Nat.le_refl _)).keep k2 (by simp [he.2.1]) (Nat.le_refl _)).keep k3 (by simp [he.2.2]) hbd
  refine ⟨k3 _ _ _ _ hbox2 (by decide), h.lo, ?_, ?_, ow hX'.os (by decide), ow hX'.od (by decide), ow hX'.on (by decide), fun i hi => fl (hX'.fi i hi) (by decide), fun i hi => ?_, fun i hi => fl (hX'.fs i hi) (by decide), fun i hi => fl (hX'.fd i hi) (by decide), fun i hi => fl (hX'.fn i hi) (by decide)⟩
  · exact (own_keep (own_keep hX'.oi k1 (by decide)) k2 (by decide)).kept hg2 hv
  · rw [List.length_append]; exact own_keep (own_keep ho k2 (by decide)) k3 (by decide)
  · by_cases hlt : i < R.length
    · rw [List.getElem_append_left hlt]; exact (((hX'.fr i hlt).keep k1 (by decide) (Nat.le_refl _)).keep k2 (by decide) (Nat.le_refl _)).grown hg2 (fun g c e hc e' => (hs g e').1 i hlt g c e hc rfl) hbd
    · have : i = R.length := by simp at hi; omega
      subst this
      rw [List.getElem_append_right (Nat.le_refl _)]; simpa using hf

/- a square that came out, whose blocks lie from B on; n = 0: none -/
structure SqO (w : World) (B : Nat) (ao : Option Addr) (n : Nat) (g : Nat) (G : Nat → Nat) : Prop where
  nil : n = 0 → ao = none
  blk : 0 < n → ao = some ⟨g, 0, none⟩ ∧ B ≤ g ∧ ∃ cur, w.heap[g]? = some (.cells cur 53 (0, 0)) ∧ cur.size = n ∧ ∀ i, i < n → cur[i]? = some (.slice (some ⟨G i, 0, none⟩) n n)
  row : ∀ i, i < n → B ≤ G i ∧ ∃ ci, w.heap[G i]? = some (.cells ci 3 (0, 0)) ∧ ci.size = n
  inc : ∀ i i', i < i' → i' < n → G i < G i'
theorem sqO_nil (w : World) (B : Nat) : SqO w B none 0 0 (fun _ => 0) := ⟨fun _ => rfl, fun h => absurd h (by omega), fun i h => absurd h (by omega), fun i i' _ h => absurd h (by omega)⟩
theorem SqO.below {w w' : World} {B n g : Nat} {ao : Option Addr} {G : Nat → Nat} (h : SqO w B ao n g G) (hb : Below w.heap.size w w') : SqO w' B ao n g G :=
  ⟨h.nil, fun h0 => by
    obtain ⟨h1, h2, cur, h3, h4⟩ := h.blk h0
    exact ⟨h1, h2, cur, by rw [hb.block _ (Array.getElem?_eq_some_iff.1 h3).1]; exact h3, h4⟩, fun i hi => by
    obtain ⟨h1, ci, h2, h3⟩ := h.row i hi
    exact ⟨h1, ci, by rw [hb.block _ (Array.getElem?_eq_some_iff.1 h2).1]; exact h2, h3⟩, h.inc⟩
theorem sqO_of {w : World} {B n : Nat} {v : Value} {D : Nat → Nat → Int} (h : GridO w B v n D) (hn : 0 < n) : ∃ ao g G, v = .slice ao n n ∧ SqO w B ao n g G := by
  obtain ⟨g, G, rfl, ho, hr, hi⟩ := h
  obtain ⟨hb, cur, hg, hz, hc⟩ := own_row ho
  refine ⟨_, g, G, rfl, fun h => by omega, fun _ => ⟨rfl, hb, cur, hg, hz, fun i hi => by rw [hc i hi]; simp [hi]⟩, fun i hi => ?_, hi⟩
  obtain ⟨h1, ci, h2, h3, _⟩ := hr i hi
  exact ⟨h1, ci, h2, h3⟩

set_option maxRecDepth 100000 in
set_option maxHeartbeats 2000000 in
theorem square_walk (bb bd hb B n g : Nat) (G : Nat → Nat) (ao : Option Addr) (vi vr vs vd vn : Value) (I R S D N : List Value) (w : World) (h : HoldIs w bb bd hb vi vr vs vd vn I R S D N) (hn : n ≤ 10) (hI : I.length ≤ 9200000000000) (hR : R.length ≤ 1000000000000) (hbd : bd ≤ B) (hBw : B ≤ w.heap.size) (hbb : bb ≤ B) (hsep : Sep vi R) (hvB : ∀ k, vi.ownBlock = some k → k < B) (hhB : hb < B)
    (hs : SqO w B ao n g G) :
    Calls Tryz.prog 32 #[.pointer (some ⟨hb, 0, none⟩), .slice ao n n] w fun e w' => ∃ vi' vr' L s1, e = .returned (.tuple #[]) ∧ HoldIs w' bb w'.heap.size hb vi' vr' vs vd vn (I ++ L) (R ++ [s1]) S D N ∧ L.length = n ∧ Sep vi' (R ++ [s1]) ∧ Below bb w w' := by
  obtain ⟨i0, hi, hz0, hz1, hz2⟩ := info_parts Tryz.infoInt
  obtain ⟨j0, hj, hy0, hy1, hy2⟩ := info_parts Tryz.infoSqs
  have HH := hid h
  have HSQ := hid hs
  have HSEP := hid hsep
  have HVB := hid hvB
  clear h hs hsep hvB
  go_enter Tryz.func32, Tryz.ntmps32
  go_wp2_with fail
  go_loopw [4] (fun i wr => ∃ (k : Nat) (vi1 : Value) (L : List Value), i = .int .i64 k ∧ k ≤ n ∧ L.length = k ∧ w.heap.size ≤ wr.heap.size ∧ Hid (HoldIs wr bb wr.heap.size hb vi1 vr vs vd vn (I ++ L) R S D N) ∧ Hid (Sep vi1 R) ∧ Hid (∀ q, vi1.ownBlock = some q → q < B ∨ w.heap.size ≤ q) ∧ Hid (∀ x (h : x < L.length), L[x].ownBlock = some (G x)) ∧ Hid (∀ q, q < w.heap.size → B ≤ q → (∀ x, x < k → q ≠ G x) → wr.heap[q]? = w.heap[q]?) ∧ Hid (Below bb w wr)) (fun i _ => n - (intOf i).toNat)
  case atStart => exact ⟨0, vi, [], rfl, by omega, rfl, Nat.le_refl _, by rw [List.append_nil]; exact HH.out.below (Below.refl _ _) (by omega), HSEP, fun q hq => .inl (HVB.out q hq), fun x hx => absurd hx (by simp), fun q _ _ _ => rfl, Below.refl _ _⟩
  case round =>
    obtain ⟨k, vi1, L, rfl, hk, hL, hsz, HI, HS1, HV1, HL, HK, HB⟩ := hrel
    by_cases hlt : k < n
    · obtain ⟨rfl, hBg, cur, hg, hgz, hgc⟩ := HSQ.out.blk (by omega)
      obtain ⟨hBk, ci, hci, hcz⟩ := HSQ.out.row k hlt
      have hgl : g < w.heap.size := (Array.getElem?_eq_some_iff.1 hg).1
      have hgG : ∀ x, x < n → g ≠ G x := fun x hx e => by
        obtain ⟨_, cx, hcx, _⟩ := HSQ.out.row x hx
        rw [← e, hg] at hcx; cases hcx
      have hgr : wr.heap[g]? = some (.cells cur 53 (0, 0)) := (HK.out g hgl hBg (fun x hx => hgG x (by omega))).trans hg
      have hcr : wr.heap[G k]? = some (.cells ci 3 (0, 0)) := (HK.out (G k) (Array.getElem?_eq_some_iff.1 hci).1 hBk (fun x hx => by have := HSQ.out.inc x k hx hlt; omega)).trans hci
      have x0 : wr.cell? ⟨g, k, none⟩ = some (.slice (some ⟨G k, 0, none⟩) n n) := by rw [cell_of_row _ _ _ _ _ _ hgr]; exact hgc k hlt
      have hglr : g < wr.heap.size := (Array.getElem?_eq_some_iff.1 hgr).1
      have hown : wr.ownsRow B 3 1 (.slice (some ⟨G k, 0, none⟩) n n) n ci.toList := ⟨by simp [hcz], .inr ⟨G k, n, ci, rfl, hBk, hcr, Nat.le_refl _, by unfold maxLen; omega, by simp [hcz], by rw [Nat.mul_one, ← hcz]; exact List.take_of_length_le (by simp)⟩⟩
      have hcon := list_walk bb wr.heap.size hb B n vi1 vr vs vd vn (I ++ L) R S D N (.slice (some ⟨G k, 0, none⟩) n n) ci.toList wr HI.out (by simp; omega) (Nat.le_refl _) (by omega) HS1.out hown (fun x hx g' c e hc he => by
        have hgk : G k = g' := by simpa [Value.ownBlock] using he
        by_cases hxI : x < I.length
        · rw [List.getElem_append_left hxI] at e
          have := (HH.out.fi x hxI).lt g' c e hc; omega
        · have hxL : x - I.length < L.length := by simp at hx; omega
          rw [List.getElem_append_right (by omega)] at e
          have h1 := HL.out (x - I.length) hxL
          rw [e] at h1
          have h2 : g' = G (x - I.length) := by simpa [Value.ownBlock] using h1
          have h3 := HSQ.out.inc (x - I.length) k (by omega) hlt
          omega)
      have HC := hid hcon
      have ik : (0 : Int) ≤ (k : Int) := by omega
      have jk : (k : Int) < (n : Int) := by omega
      clear hcon hown hcr hgr hgc hg hci
      go_wp2_with fail
      refine HC.out.mono ?_
      rintro e2 w2 ⟨vi2, s1, rfl, hh2, hs2, hv2, ho2, hz2', hk2, hb2⟩
      have HH2 : Hid (HoldIs w2 bb w2.heap.size hb vi2 vr vs vd vn (I ++ (L ++ [s1])) R S D N) := by show HoldIs _ _ _ _ _ _ _ _ _ _ _ _ _ _; rw [← List.append_assoc]; exact hh2
      have HS2 := hid hs2
      have HV2 : Hid (∀ q, vi2.ownBlock = some q → q < B ∨ w.heap.size ≤ q) := fun q hq => by
        rcases hv2 with h1 | ⟨g', h1, h2⟩
        · exact HV1.out q (by rw [← h1]; exact hq)
        · rw [h1] at hq; cases hq; right; omega
      have HL2 : Hid (∀ x (h : x < (L ++ [s1]).length), (L ++ [s1])[x].ownBlock = some (G x)) := fun x hx => by
        by_cases hxL : x < L.length
        · rw [List.getElem_append_left hxL]; exact HL.out x hxL
        · have hxk : x = k := by simp at hx; omega
          subst hxk
          rw [List.getElem_append_right (by omega)]
          simp only [hL, Nat.sub_self, List.getElem_cons_zero]
          exact ho2
      have HK2 : Hid (∀ q, q < w.heap.size → B ≤ q → (∀ x, x < k + 1 → q ≠ G x) → w2.heap[q]? = w.heap[q]?) := fun q hq hB hx => by
        rw [hk2 q (by omega) (by omega) (fun e => by have := HV1.out q e; omega) (fun e => hx k (by omega) (by simpa [Value.ownBlock] using e.symm))]
        exact HK.out q hq hB (fun x hx' => hx x (by omega))
      have HB2 : Hid (Below bb w w2) := HB.out.trans (hb2.mono (by omega))
      have hsz2 : w.heap.size ≤ w2.heap.size := by omega
      clear hh2 hs2 hv2 ho2 hk2 hb2 HC HI HS1 HV1 HL HK HB x0
      go_wp2
      go_roundw
      case rel => exact ⟨k + 1, vi2, L ++ [s1], by go_num, by omega, by simp [hL], hsz2, HH2, HS2, HV2, HL2, HK2, HB2⟩
      case measure => simp [intOf]; omega
    · have hkn : k = n := by omega
      have HKN := hid hkn
      clear hkn
      obtain ⟨avr, cvr, hvr, _, _⟩ := own_val HI.out.or
      subst hvr
      have hbl : hb < wr.heap.size := (Array.getElem?_eq_some_iff.1 HI.out.box).1
      have c1 : wr.cell? ⟨hb, 1, none⟩ = some (.slice avr R.length cvr) := by rw [cell_of_row _ _ _ _ _ _ HI.out.box]; rfl
      have hfz : ∀ o, wr.frozen? ⟨hb, o, none⟩ = false := fun o => frozen_of_row wr hb o _ _ HI.out.box
      go_wp2_with (at_builtin; refine wpList_append_own _ rfl _ _ 27 rfl bb 26 j0 (.slice none 0 0) 1 24 Tryz.underlying27 hj hy0 hy1 hy2 rfl (by decide) _ _ _ rfl (HI.out.or.alloc _) ⟨wr.heap.size, 0, none⟩ 1 1 [.slice ao n n] rfl rfl ?c1 ?c2 ?c3 ?c4 ?c5 ?_)
      case c1 => exact news_at rfl rfl
      case c2 => intro u hu; simp at hu; subst hu; rfl
      case c3 => unfold maxLen; omega
      case c4 => omega
      case c5 => simp; omega
      intro v' w1 hown' hgrow _
      obtain ⟨g5, cap5, cur5, hv5, _, _, _⟩ := own_shape hown' (by omega)
      subst hv5
      obtain ⟨X, hX, hgr⟩ : ∃ X, Below wr.heap.size wr X ∧ X.grownBy w1 (Value.slice avr R.length cvr).ownBlock := ⟨_, below1 wr _, hgrow⟩
      clear hgrow
      have hk1 : Keep [26] X w1 := Keep.grown (own_below HI.out.or hX) (by simp) hgr
      have hk0 : Keep [26] wr w1 := (Keep.of_below hX).trans hk1
      have hbox1 := hk0 _ _ _ _ HI.out.box (by decide)
      have hbl1 : hb < w1.heap.size := (Array.getElem?_eq_some_iff.1 hbox1).1
      have c1' : w1.cell? ⟨hb, 1, none⟩ = some (.slice avr R.length cvr) := by rw [cell_of_row _ _ _ _ _ _ hbox1]; rfl
      have hfz1 : ∀ o, w1.frozen? ⟨hb, o, none⟩ = false := fun o => frozen_of_row w1 hb o _ _ hbox1
      obtain ⟨W2, hW2⟩ : ∃ W2, W2 = w1.setCell ⟨hb, 1, none⟩ (.slice (some ⟨g5, 0, none⟩) (R.length + 1) cap5) := ⟨_, rfl⟩
      have hk2 : Keep [32] w1 W2 := by rw [hW2]; exact Keep.setCell hbox1 (by simp) _
      have hbox2 : W2.heap[hb]? = some (.cells #[vi1, .slice (some ⟨g5, 0, none⟩) (R.length + 1) cap5, vs, vd, vn] 32 (0, 0)) := by rw [hW2]; exact heap_setCell_same w1 hb 1 _ _ _ hbox1
      have HRW : Hid (0 < n → ∃ crr, ao = some ⟨g, 0, none⟩ ∧ B ≤ g ∧ g < w.heap.size ∧ g ≠ hb ∧ W2.heap[g]? = some (.cells crr 53 (0, 0)) ∧ crr.size = n) := fun hc => by
        obtain ⟨h1, h2, cur, h3, h4, _⟩ := HSQ.out.blk hc
        have hgl : g < w.heap.size := (Array.getElem?_eq_some_iff.1 h3).1
        have h5 := (HK.out g hgl h2 (fun x hx e => by
          obtain ⟨_, cx, hcx, _⟩ := HSQ.out.row x (by have := HKN.out; omega)
          rw [← e, h3] at hcx; cases hcx)).trans h3
        exact ⟨cur, h1, h2, hgl, by omega, hk2 _ _ _ _ (hk0 _ _ _ _ h5 (by decide)) (by decide), h4⟩
      have HOB : Hid (∀ q, (Value.slice ao n n).ownBlock = some q → q = g ∧ 0 < n) := fun q e => by
        rcases Nat.eq_zero_or_pos n with h0 | h0
        · rw [HSQ.out.nil h0] at e; cases e
        · obtain ⟨_, h1, _⟩ := HRW.out h0
          rw [h1] at e
          exact ⟨by have : g = q := by simpa [Value.ownBlock] using e
                    exact this.symm, h0⟩
      have HGR := hid hgr
      have HX := hid hX
      have HOW := hid hown'
      have HBX := hid hbox2
      have HW2 := hid hW2
      clear hgr hX hown' hbox2 hk2 hk0 hk1 hbox1
      go_wp2_with fail
      rw [← hW2]
      clear hW2
      go_loopw [6] (fun i wr => ∃ p : Nat, i = .int .i64 p ∧ p ≤ n ∧ Hid (W2.grownBy wr (Value.slice ao n n).ownBlock) ∧ Hid (0 < n → ∃ crr, wr.heap[g]? = some (.cells crr 53 (0, 0)) ∧ crr.size = n ∧ ∀ j, j < p → ∃ u, crr[j]? = some u ∧ isRow R.length 0 u)) (fun i _ => n - (intOf i).toNat)
      case atStart =>
        refine ⟨0, rfl, by omega, grown_refl _ _, fun hc => ?_⟩
        obtain ⟨crr, _, _, _, _, h5, h6⟩ := HRW.out hc
        exact ⟨crr, h5, h6, fun j hj => absurd hj (by omega)⟩
      case round =>
        obtain ⟨p, rfl, hp, HG, HF⟩ := hrel
        have hbw2 : wr.heap[hb]? = _ := (HG.out.block hb (Array.getElem?_eq_some_iff.1 HBX.out).1 (fun e => by obtain ⟨h1, h2⟩ := HOB.out _ e.symm; obtain ⟨_, _, _, _, h3, _⟩ := HRW.out h2; exact h3 h1.symm)).trans HBX.out
        have hblr : hb < wr.heap.size := (Array.getElem?_eq_some_iff.1 hbw2).1
        have b1 : wr.cell? ⟨hb, 1, none⟩ = some (.slice (some ⟨g5, 0, none⟩) (R.length + 1) cap5) := by rw [cell_of_row _ _ _ _ _ _ hbw2]; rfl
        by_cases hlt2 : p < n
        · obtain ⟨crr, hg, hgz, hgp⟩ := HF.out (by omega)
          obtain ⟨_, rfl, hBg, hgw, hgb, _, _⟩ := HRW.out (by omega)
          go_wp2_with (refine wpList_make_full _ rfl _ _ 53 rfl 0 3 i0 (.int .i64 0) 1 Tryz.underlying53 hi hz0 hz1 .i64 .i64 _ _ (R.length + 1) rfl rfl ?m1 ?m2 ?m3 ?m4 ?m5 ?_)
          case m3 => omega
          case m4 => unfold maxLen; omega
          intro w6 _ hgr6
          have hg6 : w6.heap[g]? = some (.cells crr 53 (0, 0)) := by rw [hgr6.block _ (Array.getElem?_eq_some_iff.1 hg).1 (by simp)]; exact hg
          have e0 : w6.cell? ⟨g, p, none⟩ = some (crr.getD p (.slice none 0 0)) := by
            have hq' : p < crr.size := by omega
            rw [cell_of_row _ _ _ _ _ _ hg6, Array.getElem?_eq_getElem hq']; simp [Array.getD, hq']
          have ef : ∀ o, w6.frozen? ⟨g, o, none⟩ = false := fun o => frozen_of_row w6 g o _ _ hg6
          have hgl6 : g < w6.heap.size := (Array.getElem?_eq_some_iff.1 hg6).1
          have HG6 : Hid (W2.grownBy w6 (some g)) := ⟨hgr6.os.trans HG.out.os, hgr6.tape.trans HG.out.tape, hgr6.output.trans HG.out.output, Nat.le_trans HG.out.size hgr6.size, fun q hq hne => by
            rw [hgr6.block q (Nat.lt_of_lt_of_le hq HG.out.size) (by simp)]; exact HG.out.block q hq hne⟩
          have HGZ := hid hgz
          have HGP := hid hgp
          have HGG := hid hg6
          clear hgp hgz hg hg6 hgr6 hbw2 HG HF b1
          go_wp2_with fail
          go_roundw
          case rel =>
            refine ⟨p + 1, by go_num, by omega, grown_set HG6.out _, fun _ => ?_⟩
            obtain ⟨crr', f1, f2, f3⟩ := fill1 (u0 := .slice (some ⟨wr.heap.size, 0, none⟩) (R.length + 1) (R.length + 1)) (P := isRow R.length) HGG.out HGZ.out hlt2 HGP.out ⟨_, _, rfl⟩
            exact ⟨crr', f1, f2, f3⟩
          case measure => simp [intOf]; omega
        · have hpn : p = n := by omega
          have HF1 : Hid (Full wr wr.heap.size 53 1 (isRow R.length) (.slice ao n n)) := ⟨ao, n, rfl, by unfold maxLen; omega, fun hc => by
            obtain ⟨crr, h2, h3, h4⟩ := HF.out hc
            obtain ⟨_, h1, _⟩ := HRW.out hc
            refine ⟨g, crr, h1, (Array.getElem?_eq_some_iff.1 h2).1, h2, fun j q hj hq => ?_⟩
            obtain rfl : q = 0 := by omega
            rw [Nat.mul_one, Nat.add_zero]; exact h4 j (by omega)⟩
          have h5 : w1.heap.size ≤ W2.heap.size := by rw [HW2.out]; exact ((Below.refl 0 w1).setCell (Nat.zero_le _) _).size
          have hszz : w.heap.size ≤ wr.heap.size := by
            have h2 := HX.out.size; have h3 := HGR.out.size; have h4 := HG.out.size
            omega
          have hHH := hold_row (bd' := wr.heap.size) HI.out HX.out HGR.out HOW.out (by rw [← HW2.out]; exact HG.out) (fun q e => by
            rw [← HW2.out]
            obtain ⟨rfl, h0⟩ := HOB.out q e
            obtain ⟨crr, h1, h2, h3, _, h6, _⟩ := HRW.out h0
            exact ⟨fun i hi g' c e' hc he => by have := (HH.out.fr i hi).lt g' c e' hc; omega, crr, h6⟩) HF1.out (by have h2 := HX.out.size; have h3 := HGR.out.size; have h4 := HG.out.size; omega) (by
            by_cases hv : vi1.ownBlock = none
            · exact .inl hv
            · right
              intro e
              cases hq : vi1.ownBlock with
              | none => exact hv hq
              | some q =>
                rw [hq] at e
                obtain ⟨rfl, h0⟩ := HOB.out q e.symm
                obtain ⟨_, _, h2, h3, _⟩ := HRW.out h0
                have := HV1.out q hq; omega)
          have hSS : Sep vi1 (R ++ [.slice ao n n]) := fun i hi g' c e hc he => by
            by_cases hlt3 : i < R.length
            · rw [List.getElem_append_left hlt3] at e; exact HS1.out i hlt3 g' c e hc he
            · rw [List.getElem_append_right (by omega)] at e
              have hi' : i - R.length = 0 := by simp at hi; omega
              simp only [hi', List.getElem_cons_zero] at e
              obtain ⟨h1, h0⟩ := HOB.out g' (by rw [e]; rfl)
              obtain ⟨_, _, h2, h3, _⟩ := HRW.out h0
              have := HV1.out g' he; omega
          have hBB : Below bb w wr := by
            have h1 : Below bb w w1 := (HB.out.trans (HX.out.mono (by omega))).trans ((Below.refl _ _).grown HGR.out (by have := HX.out.size; omega) (fun q hq => (HI.out.or.lt q hq).1))
            have h2 : Below bb w W2 := by rw [HW2.out]; exact h1.setCell (by have := HH.out.lo; show bb ≤ hb; omega) _
            exact h2.grown HG.out (by have := h2.size; omega) (fun q hq => by obtain ⟨rfl, h0⟩ := HOB.out q hq; obtain ⟨_, _, h3, _⟩ := HRW.out h0; omega)
          have HH2 := hid hHH
          have HS2 := hid hSS
          have HB2 := hid hBB
          have HLN : Hid (L.length = n) := by show _ = _; rw [hL]; exact HKN.out
          clear hHH hSS hBB HF1 HF HG HRW HOB HBX HX HGR HOW HW2 hbw2 b1 hpn
          go_wp2
          refine bodyPost_end (v := .tuple #[]) (by simp [results, Tryz.results32, go_sem]) rfl ?_
          exact ⟨_, _, L, _, rfl, HH2.out, HLN.out, HS2.out, HB2.out⟩
end Go.Proofs.YtebinaopncclgaaGreatDoor
