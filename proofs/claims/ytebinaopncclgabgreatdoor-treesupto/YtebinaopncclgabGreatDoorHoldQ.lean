/- Walks of the statements: a list of numbers is held; a square. -/
import Derived.Deep.AppendLies
import Derived.Deep.DeepAppendWide
import Derived.Test.YtebinaopncclgabGreatDoorUpTo
import Derived.Test.YtebinaopncclgabGreatDoorWaysZ
namespace Go.Proofs.YtebinaopncclgabGreatDoor
section
variable {P : Program} (w : World)

theorem append_at_wide (base : Nat) (t ty e : TypeId) (i : TypeInfo) (z : Value) (bytes : Nat) (ht : P.underlying t = some (.slice e)) (hi : P.info? e = some i) (hz : i.zero = some z) (hsize : i.size = 1) (hby : i.bytes = bytes) (hzs : z.cells.size = 1)
    (v : Value) (n : Nat) (xs : List Value) (hown : w.ownsRow base e 1 v n xs) (ad : Addr) (c : Nat) (u : Value) (hnews : ∀ j x, [u][j]? = some x → w.cell? (ad.add j) = some x) (h1 : u.oneCell' = true)
    (h63 : n + 1 ≤ maxLen) (hbytes : ((n + 1) + (n + 1) / 4 + 192) * bytes ≤ 281474976710656) (hbase : base ≤ w.heap.size) :
    ∃ g cap w', (Builtin.append_ #[t, t] ty #[v, .slice (some ad) 1 c]).run P w = .ok (.slice (some ⟨g, 0, none⟩) (n + 1) cap) w' ∧ w'.ownsRow base e 1 (.slice (some ⟨g, 0, none⟩) (n + 1) cap) (n + 1) (xs ++ [u]) ∧ w.grownBy w' v.ownBlock ∧ (v.ownBlock = some g ∨ g = w.heap.size) ∧ g < w'.heap.size := by
  have hm1 : ∀ x ∈ [u], x.oneCell' = true := by intro x hx; simp at hx; subst hx; exact h1
  have hsmall : n + 1 ≤ 9223372036854775807 := by simp only [maxLen] at h63; omega
  obtain ⟨v', w', hr, h2, h3, _⟩ := run_append_own_wide (P := P) w base t ty e i z 1 bytes ht hi hz hsize hby hzs (by omega) v n xs hown ad 1 c [u] rfl hnews hm1 h63 hbytes hbase
  obtain ⟨g, cap, rfl, _, hlt⟩ := h2.form (by omega)
  refine ⟨g, cap, w', hr, h2, h3, ?_, hlt⟩
  rcases hown.2 with ⟨rfl, rfl⟩ | ⟨g0, cap0, cur, rfl, _, hg, _, _, hcs, _⟩
  · obtain ⟨g', cap', w'', hr', _, _, h5, _⟩ := run_append_lies (P := P) w t ty base e i z 1 bytes ht hi hz hsize hby hzs (by omega) (.slice none 0 0) 0 xs hown ad 1 c [u] rfl hnews hm1 (by omega) (by unfold maxLen; omega) (by omega) hbase _ rfl
    have e1 := hr.symm.trans hr'
    injection e1 with e1 _
    injection e1 with e1 _ _
    injection e1 with e1
    injection e1 with e1 _ _
    rw [e1]; exact h5
  · by_cases hroom : n + 1 ≤ cap0
    · have hr' := run_append_room (P := P) w t ty e i ht hi g0 n cap0 cur hg ad 1 c [u] (by rw [hsize]; rfl) hnews hm1 hroom (by rw [hsize]; simp; omega)
      have e1 := hr.symm.trans hr'
      injection e1 with e1 _
      injection e1 with e1 _ _
      injection e1 with e1
      injection e1 with e1 _ _
      left; rw [e1]; rfl
    · have hr' := run_append_grow (P := P) w t ty e i z ht hi hz ⟨g0, 0, none⟩ n cap0 xs (by rw [hown.1, hsize]) (hown.cells (g := g0) rfl) ad 1 c [u] (by rw [hsize]; rfl) hnews (by omega) (by omega) (by rw [hby]; exact growslice_fits_wide (by omega) hbytes)
      have e1 := hr.symm.trans hr'
      injection e1 with e1 _
      injection e1 with e1 _ _
      injection e1 with e1
      injection e1 with e1 _ _
      right; exact e1

theorem wpList_append_lies_wide {ops : Array Oper} {rest : List Oper} {o : Oper} {a : Act} {Q : Exit → Act → World → Prop} (hgd : o.guard = none) (s x : Operand) (t : TypeId)
    (ho : o.op = .call { callee := .builtin .append, args := #[s, x], argTypes := #[t, t] })
    (base : Nat) (e : TypeId) (i : TypeInfo) (z : Value) (bytes : Nat) (ht : P.underlying t = some (.slice e)) (hi : P.info? e = some i) (hz : i.zero = some z) (hsize : i.size = 1) (hby : i.bytes = bytes) (hzs : z.cells.size = 1)
    (v : Value) (n : Nat) (xs : List Value) (hs : a.eval s = v) (hown : w.ownsRow base e 1 v n xs) (ad : Addr) (c : Nat) (u : Value) (hx : a.eval x = .slice (some ad) 1 c) (hnews : ∀ j x, [u][j]? = some x → w.cell? (ad.add j) = some x) (h1 : u.oneCell' = true)
    (h63 : n + 1 ≤ maxLen) (hbytes : ((n + 1) + (n + 1) / 4 + 192) * bytes ≤ 281474976710656) (hbase : base ≤ w.heap.size) (H : Nat) (hH : w.heap.size = H)
    (h : ∀ g cap w', w'.ownsRow base e 1 (.slice (some ⟨g, 0, none⟩) (n + 1) cap) (n + 1) (xs ++ [u]) → w.grownBy w' v.ownBlock → (v.ownBlock = some g ∨ g = H) → g < w'.heap.size → wpList P ops Q rest (a.put o.dst (.slice (some ⟨g, 0, none⟩) (n + 1) cap)) w') : wpList P ops Q (o :: rest) a w := by
  refine wpList_plain hgd fun _ hK => ?_
  obtain ⟨g, cap, w', hr, h2, h3, h4, h5⟩ := append_at_wide (P := P) w base t o.type e i z bytes ht hi hz hsize hby hzs v n xs hown ad c u hnews h1 h63 hbytes hbase
  rw [hH] at h4
  unfold Oper.wp execOp
  simp only [ho, resolve, invoke, builtin, Sem.run_bind, Sem.run_pure, Result.andThen_ok, List.map_toArray, List.map_cons, List.map_nil, hs, hx, hr]
  exact hK _ _ (h g cap w' h2 h3 h4 h5)
end
end Go.Proofs.YtebinaopncclgabGreatDoor
namespace Go.Proofs.YtebinaopncclgabGreatDoor
open Go.RowKit Go.IntWalk

theorem fill1 {w : World} {g c k : Nat} {t : TypeId} {cur : Array Value} {u0 : Value} {P : Nat → Value → Prop} (h : w.heap[g]? = some (.cells cur t (0, 0))) (hz : cur.size = c) (hk : k < c) (hp : ∀ j, j < k → ∃ u, cur[j]? = some u ∧ P 0 u) (p0 : P 0 u0) :
    ∃ cur', (w.setCell ⟨g, k, none⟩ u0).heap[g]? = some (.cells cur' t (0, 0)) ∧ cur'.size = c ∧ ∀ j, j < k + 1 → ∃ u, cur'[j]? = some u ∧ P 0 u := by
  have k1 := heap_setCell_same w g k _ _ u0 h
  refine ⟨_, k1, by simp [hz], fun j hj => ?_⟩
  simp only [Array.getElem?_setIfInBounds]
  by_cases hjk : j = k
  · subst hjk; exact ⟨u0, by simp [hz]; omega, p0⟩
  · rw [if_neg (by omega)]; exact hp j (by omega)

/- the list is held: what was appended, stored and written; the blocks of the rows that are held are none of these -/
theorem hold_int {w X w1 wr : World} {bb bd bd' hb : Nat} {vi vr vs vd vn v' s : Value} {I R S D N : List Value} (h : HoldIs w bb bd hb vi vr vs vd vn I R S D N) (hX : Below w.heap.size w X) (hg1 : X.grownBy w1 vi.ownBlock) (ho : w1.ownsRow bb 40 1 v' (I.length + 1) (I ++ [s]))
    (hg2 : (w1.setCell ⟨hb, 0, none⟩ v').grownBy wr s.ownBlock) (hs : ∀ k, s.ownBlock = some k → (∀ i (h : i < I.length), ∀ g c, I[i] = .slice (some ⟨g, 0, none⟩) c c → 0 < c → g ≠ k) ∧ ∃ cur, (w1.setCell ⟨hb, 0, none⟩ v').heap[k]? = some (.cells cur 3 (0, 0))) (hf : Full wr bd' 3 1 (isInt I.length) s) (hbd : bd ≤ bd')
    (hr : ∀ i (h : i < R.length), ∀ g c, R[i] = .slice (some ⟨g, 0, none⟩) c c → 0 < c → vi.ownBlock ≠ some g) :
    HoldIs wr bb bd' hb v' vr vs vd vn (I ++ [s]) R S D N := by
  have hX' := h.below hX (Nat.le_refl bd)
  have k1 : Keep [40] X w1 := Keep.grown hX'.oi (by simp) hg1
  have hbox : w1.heap[hb]? = some (.cells #[vi, vr, vs, vd, vn] 55 (0, 0)) := k1 _ _ _ _ hX'.box (by decide)
  have k2 : Keep [55] w1 (w1.setCell ⟨hb, 0, none⟩ v') := Keep.setCell hbox (by simp) v'
  have k3 : Keep [3] (w1.setCell ⟨hb, 0, none⟩ v') wr := grow_keep hg2 (fun k e => (hs k e).2)
  have hbox2 : (w1.setCell ⟨hb, 0, none⟩ v').heap[hb]? = some (.cells #[v', vr, vs, vd, vn] 55 (0, 0)) := heap_setCell_same w1 hb 0 _ _ v' hbox
  have ow : ∀ {e : TypeId} {size n : Nat} {v : Value} {xs : List Value}, X.ownsRow bb e size v n xs → e ∉ [40, 55, 3] → wr.ownsRow bb e size v n xs := by
    intro e size n v xs hv he
    simp only [List.mem_cons, List.not_mem_nil, or_false, not_or] at he
    exact own_keep (own_keep (own_keep hv k1 (by simp [he.1])) k2 (by simp [he.2.1])) k3 (by simp [he.2.2])
  have fl : ∀ {e : TypeId} {size : Nat} {P : Nat → Value → Prop} {v : Value}, Full X bd e size P v → e ∉ [40, 55, 3] → Full wr bd' e size P v := by
    intro e size P v hv he
    simp only [List.mem_cons, List.not_mem_nil, or_false, not_or] at he
    exact ((hv.keep k1 (by simp [he.1]) (Nat.le_refl _)).keep k2 (by simp [he.2.1]) (Nat.le_refl _)).keep k3 (by simp [he.2.2]) hbd
  refine ⟨k3 _ _ _ _ hbox2 (by decide), h.lo, ?_, ow hX'.or (by decide), ow hX'.os (by decide), ow hX'.od (by decide), ow hX'.on (by decide), fun i hi => ?_, fun i hi => ?_, fun i hi => fl (hX'.fs i hi) (by decide), fun i hi => fl (hX'.fd i hi) (by decide), fun i hi => fl (hX'.fn i hi) (by decide)⟩
  · rw [List.length_append]; exact own_keep (own_keep ho k2 (by decide)) k3 (by decide)
  · by_cases hlt : i < I.length
    · rw [List.getElem_append_left hlt]; exact (((hX'.fi i hlt).keep k1 (by decide) (Nat.le_refl _)).keep k2 (by decide) (Nat.le_refl _)).grown hg2 (fun g c e hc e' => (hs g e').1 i hlt g c e hc rfl) hbd
    · have : i = I.length := by simp at hi; omega
      subst this
      rw [List.getElem_append_right (Nat.le_refl _)]; simpa using hf
  · exact (((hX'.fr i hi).grown hg1 (fun g c e hc => hr i hi g c e hc) (Nat.le_refl _)).keep k2 (by decide) (Nat.le_refl _)).keep k3 (by decide) hbd

theorem own_len (a : Option Addr) (n n' c c' : Nat) : (Value.slice a n c).ownBlock = (Value.slice a n' c').ownBlock := by cases a <;> rfl

set_option maxRecDepth 100000 in
set_option maxHeartbeats 1000000 in
theorem list_walk (bb bd hb B n : Nat) (vi vr vs vd vn : Value) (I R S D N : List Value) (us : Value) (zs : List Value) (w : World) (h : HoldIs w bb bd hb vi vr vs vd vn I R S D N) (hI : I.length ≤ 9300000000000) (hbd : bd ≤ w.heap.size) (hbb : bb ≤ w.heap.size) (hsep : Sep vi R)
    (hs : w.ownsRow B 3 1 us n zs) (hfresh : ∀ i (h : i < I.length), ∀ g c, I[i] = .slice (some ⟨g, 0, none⟩) c c → 0 < c → us.ownBlock ≠ some g) :
    Calls Tryz.prog 60 #[.pointer (some ⟨hb, 0, none⟩), us] w fun e w' => ∃ vi' s1, e = .returned (.tuple #[]) ∧ HoldIs w' bb w'.heap.size hb vi' vr vs vd vn (I ++ [s1]) R S D N ∧ Sep vi' R ∧ (vi'.ownBlock = vi.ownBlock ∨ ∃ g, vi'.ownBlock = some g ∧ w.heap.size ≤ g) ∧ s1.ownBlock = us.ownBlock ∧ w.heap.size ≤ w'.heap.size ∧ (∀ k, k < w.heap.size → k ≠ hb → vi.ownBlock ≠ some k → us.ownBlock ≠ some k → w'.heap[k]? = w.heap[k]?) ∧ Below (min bb B) w w' := by
  obtain ⟨i0, hi, hz0, hz1, hz2⟩ := info_parts Tryz.infoInts
  have HH := hid h
  have HSEP := hid hsep
  have HFR := hid hfresh
  obtain ⟨avs, cvs, hvs, _, _⟩ := own_val h.oi
  subst hvs
  have hbl : hb < w.heap.size := (Array.getElem?_eq_some_iff.1 h.box).1
  have c0 : w.cell? ⟨hb, 0, none⟩ = some (.slice avs I.length cvs) := by rw [cell_of_row _ _ _ _ _ _ h.box]; rfl
  have hfz : ∀ o, w.frozen? ⟨hb, o, none⟩ = false := fun o => frozen_of_row w hb o _ _ h.box
  obtain ⟨aus, cus, hus, hle, hroom⟩ := room_of hs
  have HRM := hid hroom
  have hcm := hroom.1
  unfold maxLen at hcm
  subst hus
  clear h hs hroom hsep hfresh
  go_enter Tryz.func60, Tryz.ntmps60
  go_wp2_with (at_builtin; refine wpList_append_lies_wide _ rfl _ _ 31 rfl bb 40 i0 (.slice none 0 0) 24 Tryz.underlying31 hi hz0 hz1 hz2 rfl _ _ _ rfl (HH.out.oi.alloc _) ⟨w.heap.size, 0, none⟩ 1 (.slice aus cus cus) rfl ?c1 rfl ?c3 ?c4 ?c5 (w.heap.size + 1) ?c6 ?_)
  case c1 => exact news_at rfl rfl
  case c3 => unfold maxLen; omega
  case c4 => omega
  case c5 => simp; omega
  case c6 => simp
  intro g5 cap5 w1 hown' hgrow hat hlt5
  obtain ⟨X, hX, hgr⟩ : ∃ X, Below w.heap.size w X ∧ X.grownBy w1 (Value.slice avs I.length cvs).ownBlock := ⟨_, below1 w _, hgrow⟩
  clear hgrow
  have hk1 : Keep [40] X w1 := Keep.grown (own_below HH.out.oi hX) (by simp) hgr
  have hk0 : Keep [40] w w1 := (Keep.of_below hX).trans hk1
  have hbox1 := hk0 _ _ _ _ HH.out.box (by decide)
  have hbl1 : hb < w1.heap.size := (Array.getElem?_eq_some_iff.1 hbox1).1
  have c0' : w1.cell? ⟨hb, 0, none⟩ = some (.slice avs I.length cvs) := by rw [cell_of_row _ _ _ _ _ _ hbox1]; rfl
  have hfz1 : ∀ o, w1.frozen? ⟨hb, o, none⟩ = false := fun o => frozen_of_row w1 hb o _ _ hbox1
  obtain ⟨W2, hW2⟩ : ∃ W2, W2 = w1.setCell ⟨hb, 0, none⟩ (.slice (some ⟨g5, 0, none⟩) (I.length + 1) cap5) := ⟨_, rfl⟩
  have hk2 : Keep [55] w1 W2 := by rw [hW2]; exact Keep.setCell hbox1 (by simp) _
  have hbox2 : W2.heap[hb]? = some (.cells #[.slice (some ⟨g5, 0, none⟩) (I.length + 1) cap5, vr, vs, vd, vn] 55 (0, 0)) := by rw [hW2]; exact heap_setCell_same w1 hb 0 _ _ _ hbox1
  have HRB : Hid (∀ k, (Value.slice aus cus cus).ownBlock = some k → B ≤ k ∧ k < w.heap.size ∧ k ≠ hb ∧ ∃ crr, W2.heap[k]? = some (.cells crr 3 (0, 0))) := fun k e => by
    obtain ⟨h1, crr, h2⟩ := room_block HRM.out k e
    have h3 := hk2 _ _ _ _ (hk0 _ _ _ _ h2 (by decide)) (by decide)
    exact ⟨h1, (Array.getElem?_eq_some_iff.1 h2).1, fun e' => (by rw [e', hbox2] at h3; cases h3), crr, h3⟩
  have HRW : Hid (0 < cus → ∃ g crr, aus = some ⟨g, 0, none⟩ ∧ W2.heap[g]? = some (.cells crr 3 (0, 0)) ∧ crr.size = cus) := fun hc => by
    obtain ⟨g, crr, k1, k2, k3, k4⟩ := HRM.out.2.1 hc
    exact ⟨g, crr, k1, hk2 _ _ _ _ (hk0 _ _ _ _ k3 (by decide)) (by decide), by simpa using k4⟩
  have HGR := hid hgr
  have HX := hid hX
  have HOW := hid hown'
  have HBX := hid hbox2
  have HW2 := hid hW2
  have HAT := hid hat
  clear hgr hX hown' hbox2 hk2 hk0 hk1 hbox1 hat hlt5
  go_wp2_with fail
  rw [← hW2]
  clear hW2
  go_loopw [5] (fun i wr => ∃ k : Nat, i = .int .i64 k ∧ k ≤ cus ∧ Hid (W2.grownBy wr (Value.slice aus cus cus).ownBlock) ∧ Hid (0 < cus → ∃ g crr, aus = some ⟨g, 0, none⟩ ∧ wr.heap[g]? = some (.cells crr 3 (0, 0)) ∧ crr.size = cus ∧ ∀ j, j < k → ∃ u, crr[j]? = some u ∧ isInt I.length 0 u)) (fun i _ => cus - (intOf i).toNat)
  case atStart =>
    refine ⟨0, rfl, by omega, grown_refl _ _, fun hc => ?_⟩
    obtain ⟨g, crr, k1, k4, k5⟩ := HRW.out hc
    exact ⟨g, crr, k1, k4, k5, fun j hj => absurd hj (by omega)⟩
  case round =>
    obtain ⟨k, rfl, hk, HG, HF⟩ := hrel
    have hbw2 : wr.heap[hb]? = _ := (HG.out.block hb (Array.getElem?_eq_some_iff.1 HBX.out).1 (fun e => (HRB.out _ e.symm).2.2.1 rfl)).trans HBX.out
    have hblr : hb < wr.heap.size := (Array.getElem?_eq_some_iff.1 hbw2).1
    have b0 : wr.cell? ⟨hb, 0, none⟩ = some (.slice (some ⟨g5, 0, none⟩) (I.length + 1) cap5) := by rw [cell_of_row _ _ _ _ _ _ hbw2]; rfl
    by_cases hlt : k < cus
    · obtain ⟨g, crr, rfl, hg, hgz, hgp⟩ := HF.out (by omega)
      have e0 : wr.cell? ⟨g, k, none⟩ = some (crr.getD k (.int .i64 0)) := by
        have hq' : k < crr.size := by omega
        rw [cell_of_row _ _ _ _ _ _ hg, Array.getElem?_eq_getElem hq']; simp [Array.getD, hq']
      have ef : ∀ o, wr.frozen? ⟨g, o, none⟩ = false := fun o => frozen_of_row wr g o _ _ hg
      have hgl : g < wr.heap.size := (Array.getElem?_eq_some_iff.1 hg).1
      have hgb : g ≠ hb := (HRB.out g rfl).2.2.1
      have HGZ := hid hgz
      have HGP := hid hgp
      have HGG := hid hg
      clear hgp hgz hg hbw2
      go_wp2_with fail
      go_roundw
      case rel =>
        refine ⟨k + 1, by go_num, by omega, grown_set HG.out _, fun _ => ?_⟩
        obtain ⟨crr', f1, f2, f3⟩ := fill1 (u0 := .int .i64 ((I.length : Int) + 1)) (P := isInt I.length) HGG.out HGZ.out hlt HGP.out (by simp [isInt])
        exact ⟨g, crr', rfl, f1, f2, f3⟩
      case measure => simp [intOf]; omega
    · have hkc : k = cus := by omega
      subst hkc
      have hF1 : Full wr wr.heap.size 3 1 (isInt I.length) (.slice aus k k) := ⟨aus, k, rfl, HRM.out.1, fun hc => by
        obtain ⟨g, crr, rfl, h2, h3, h4⟩ := HF.out hc
        refine ⟨g, crr, rfl, (Array.getElem?_eq_some_iff.1 h2).1, h2, fun j q hj hq => ?_⟩
        obtain rfl : q = 0 := by omega
        rw [Nat.mul_one, Nat.add_zero]; exact h4 j hj⟩
      have hsz : w.heap.size ≤ wr.heap.size := by
        have h2 := HX.out.size; have h3 := HGR.out.size; have h4 := HG.out.size
        have h5 : w1.heap.size ≤ W2.heap.size := by rw [HW2.out]; exact ((Below.refl 0 w1).setCell (Nat.zero_le _) _).size
        omega
      have hH1 := hold_int (bd' := wr.heap.size) HH.out HX.out HGR.out HOW.out (by rw [← HW2.out]; exact HG.out) (fun q e => by
        rw [← HW2.out]
        exact ⟨fun i hi g c e' hc he => HFR.out i hi g c e' hc (by rw [he, own_len aus n k k k]; exact e), (HRB.out q e).2.2.2⟩) hF1 (by omega) HSEP.out
      have hS1 : Sep (.slice (some ⟨g5, 0, none⟩) (I.length + 1) cap5) R := fun i hi g c e hc he => by
        have hg : g5 = g := by simpa [Value.ownBlock] using he
        rcases HAT.out with h1 | h1
        · exact HSEP.out i hi g c e hc (by rw [← hg]; exact h1)
        · have := (HH.out.fr i hi).lt g c e hc; omega
      have hB1 : Below (min bb B) w wr := by
        have h1 : Below (min bb B) w w1 := (HX.out.mono (by omega)).trans ((Below.refl _ _).grown HGR.out (by have := HX.out.size; omega) (fun q hq => by have := (HH.out.oi.lt q hq).1; omega))
        have h2 : Below (min bb B) w W2 := by rw [HW2.out]; exact h1.setCell (by have := HH.out.lo; show min bb B ≤ hb; omega) _
        exact h2.grown HG.out (by have := h2.size; omega) (fun q hq => by have := (HRB.out q hq).1; omega)
      have hL1 : (Value.slice (some ⟨g5, 0, none⟩) (I.length + 1) cap5).ownBlock = (Value.slice avs I.length cvs).ownBlock ∨ ∃ g, (Value.slice (some ⟨g5, 0, none⟩) (I.length + 1) cap5).ownBlock = some g ∧ w.heap.size ≤ g := by
        rcases HAT.out with h1 | h1
        · exact .inl h1.symm
        · exact .inr ⟨g5, rfl, by omega⟩
      have hK1 : ∀ q, q < w.heap.size → q ≠ hb → (Value.slice avs I.length cvs).ownBlock ≠ some q → (Value.slice aus k k).ownBlock ≠ some q → wr.heap[q]? = w.heap[q]? := fun q hq hqb h1 h2 => by
        have hXs := HX.out.size
        have hGs := HGR.out.size
        have h5 : w1.heap.size ≤ W2.heap.size := by rw [HW2.out]; exact ((Below.refl 0 w1).setCell (Nat.zero_le _) _).size
        rw [HG.out.block q (by omega) (fun e => h2 e.symm), HW2.out, Below.heap_setCell _ _ _ _ (by exact hqb), HGR.out.block q (by omega) (fun e => h1 e.symm), HX.out.block q hq]
      have HH2 := hid hH1
      have HS2 := hid hS1
      have HB2 := hid hB1
      have HL2 := hid hL1
      have HK2 := hid hK1
      clear hH1 hS1 hB1 hL1 hK1 hF1 HF HG HRM HRB HRW HBX HX HGR HOW HW2 hbw2 b0
      go_wp2
      refine bodyPost_end (v := .tuple #[]) (by simp [results, Tryz.results60, go_sem]) rfl ?_
      exact ⟨_, _, rfl, HH2.out, HS2.out, HL2.out, own_len _ _ _ _ _, hsz, fun q h1 h2 h3 h4 => HK2.out q h1 h2 h3 (by rw [own_len aus k n k k]; exact h4), HB2.out⟩
end Go.Proofs.YtebinaopncclgabGreatDoor
