/- Walks of the statements: an instance is lent. -/
import Derived.Test.YtebinaopncclgaaGreatDoorHold
import Derived.Test.YtebinaopncclgaaGreatDoorCopyZ
import Derived.OwnWalk
namespace Go.Proofs.YtebinaopncclgaaGreatDoor
open Go.RowKit Go.IntWalk

/- what a list that is lent reads as: its own cells, and the mark behind them -/
def lentF (S : Nat → Nat → Int) (n i j : Nat) : Int := if i < n then S i j else if j = 0 then 77 else 0
def cellsL (S : Nat → Nat → Int) (n size : Nat) : List Value := (List.range (n * size)).map fun t => Value.int .i64 (S (t / size) (t % size))
theorem cellsL_length (S : Nat → Nat → Int) (n size : Nat) : (cellsL S n size).length = n * size := by simp [cellsL]
theorem cellsL_at {S : Nat → Nat → Int} {n size i j : Nat} (hi : i < n) (hj : j < size) : (cellsL S n size)[i * size + j]? = some (.int .i64 (S i j)) := by
  have h1 : i * size + j < n * size := by
    have h3 : i * size + size ≤ n * size := by rw [← Nat.succ_mul]; exact Nat.mul_le_mul_right size hi
    omega
  have h2 : (i * size + j) / size = i := by rw [Nat.mul_comm, Nat.mul_add_div (by omega), Nat.div_eq_of_lt hj]; rfl
  have h3 : (i * size + j) % size = j := by rw [Nat.mul_comm, Nat.mul_add_mod, Nat.mod_eq_of_lt hj]
  simp [cellsL, h1, h2, h3]
theorem cellsL_one (S : Nat → Nat → Int) (n size : Nat) : ∀ v ∈ cellsL S n size, v.oneCell' = true := by
  intro v hv; simp only [cellsL, List.mem_map] at hv; obtain ⟨t, _, rfl⟩ := hv; rfl
theorem lies_src {w : World} {ao : Option Addr} {n size : Nat} {S : Nat → Nat → Int} (h : Lies w ao n size S) (hs : 0 < size) : 0 < n → ∃ ad, ao = some ad ∧ ∀ j v, (cellsL S n size)[j]? = some v → w.cell? (ad.add j) = some v := by
  intro hn
  obtain ⟨b, o, rfl, _, hc⟩ := h hn
  refine ⟨_, rfl, fun j v hv => ?_⟩
  have hj : j < n * size := by
    have := (List.getElem?_eq_some_iff.1 hv).1
    rwa [cellsL_length] at this
  have hd : j / size < n := Nat.div_lt_of_lt_mul (by rw [Nat.mul_comm]; exact hj)
  have hm : j % size < size := Nat.mod_lt _ hs
  have h1 := cellsL_at (S := S) hd hm
  rw [Nat.mul_comm, Nat.div_add_mod] at h1
  rw [h1] at hv
  have h2 := hc (j / size) (j % size) hd hm
  rw [Nat.add_assoc, Nat.mul_comm, Nat.div_add_mod] at h2
  rw [Addr.add_lit, h2]; exact hv
theorem fillJ5 {w : World} {g n : Nat} {t : TypeId} {cur : Array Value} {S : Nat → Nat → Int} (h : w.heap[g]? = some (.cells cur t (0, 0))) (hz : cur.size = (n + 1) * 5) (hp : ∀ i j, i < n → j < 5 → cur[i * 5 + j]? = some (.int .i64 (S i j))) :
    ∃ cur', (((((w.setCell ⟨g, n * 5, none⟩ (.int .i64 77)).setCell ⟨g, n * 5 + 1, none⟩ (.int .i64 0)).setCell ⟨g, n * 5 + 2, none⟩ (.int .i64 0)).setCell ⟨g, n * 5 + 3, none⟩ (.int .i64 0)).setCell ⟨g, n * 5 + 4, none⟩ (.int .i64 0)).heap[g]? = some (.cells cur' t (0, 0)) ∧ ∀ i j, i < n + 1 → j < 5 → cur'[i * 5 + j]? = some (.int .i64 (lentF S n i j)) := by
  have k1 := heap_setCell_same w g (n * 5) _ _ (.int .i64 77) h
  have k2 := heap_setCell_same _ g (n * 5 + 1) _ _ (.int .i64 0) k1
  have k3 := heap_setCell_same _ g (n * 5 + 2) _ _ (.int .i64 0) k2
  have k4 := heap_setCell_same _ g (n * 5 + 3) _ _ (.int .i64 0) k3
  have k5 := heap_setCell_same _ g (n * 5 + 4) _ _ (.int .i64 0) k4
  refine ⟨_, k5, fun i j hi hj => ?_⟩
  simp only [Array.getElem?_setIfInBounds, Array.size_setIfInBounds]
  by_cases hin : i = n
  · subst hin
    have hv : lentF S i i j = if j = 0 then 77 else 0 := by unfold lentF; rw [if_neg (by omega)]
    rw [hv]
    have hb : i * 5 + j < cur.size := by omega
    clear hv
    match j, hj, hb with
    | 0, _, hb => rw [Nat.add_zero] at hb; simp [hb]
    | 1, _, hb => simp [hb]
    | 2, _, hb => simp [hb]
    | 3, _, hb => simp [hb]
    | 4, _, hb => simp [hb]
  · rw [if_neg (by omega), if_neg (by omega), if_neg (by omega), if_neg (by omega), if_neg (by omega), hp i j (by omega) hj]
    unfold lentF; rw [if_pos (by omega)]
theorem fillJ3 {w : World} {g n : Nat} {t : TypeId} {cur : Array Value} {S : Nat → Nat → Int} (h : w.heap[g]? = some (.cells cur t (0, 0))) (hz : cur.size = (n + 1) * 3) (hp : ∀ i j, i < n → j < 3 → cur[i * 3 + j]? = some (.int .i64 (S i j))) :
    ∃ cur', (((w.setCell ⟨g, n * 3, none⟩ (.int .i64 77)).setCell ⟨g, n * 3 + 1, none⟩ (.int .i64 0)).setCell ⟨g, n * 3 + 2, none⟩ (.int .i64 0)).heap[g]? = some (.cells cur' t (0, 0)) ∧ ∀ i j, i < n + 1 → j < 3 → cur'[i * 3 + j]? = some (.int .i64 (lentF S n i j)) := by
  have k1 := heap_setCell_same w g (n * 3) _ _ (.int .i64 77) h
  have k2 := heap_setCell_same _ g (n * 3 + 1) _ _ (.int .i64 0) k1
  have k3 := heap_setCell_same _ g (n * 3 + 2) _ _ (.int .i64 0) k2
  refine ⟨_, k3, fun i j hi hj => ?_⟩
  simp only [Array.getElem?_setIfInBounds, Array.size_setIfInBounds]
  by_cases hin : i = n
  · subst hin
    have hv : lentF S i i j = if j = 0 then 77 else 0 := by unfold lentF; rw [if_neg (by omega)]
    rw [hv]
    have hb : i * 3 + j < cur.size := by omega
    clear hv
    match j, hj, hb with
    | 0, _, hb => rw [Nat.add_zero] at hb; simp [hb]
    | 1, _, hb => simp [hb]
    | 2, _, hb => simp [hb]
  · rw [if_neg (by omega), if_neg (by omega), if_neg (by omega), hp i j (by omega) hj]
    unfold lentF; rw [if_pos (by omega)]
theorem copied_at {S : Nat → Nat → Int} {n size : Nat} {rest : List Value} {i j : Nat} (hi : i < n) (hj : j < size) : ((cellsL S n size ++ rest).toArray)[i * size + j]? = some (.int .i64 (S i j)) := by
  have h1 : i * size + j < (cellsL S n size).length := by
    rw [cellsL_length]
    have h3 : i * size + size ≤ n * size := by rw [← Nat.succ_mul]; exact Nat.mul_le_mul_right size hi
    omega
  simp only [List.getElem?_toArray]
  rw [List.getElem?_append_left h1]; exact cellsL_at hi hj
/- a list that was lent: its cells and the mark behind them -/
def LentAt (w : World) (g n size : Nat) (S : Nat → Nat → Int) : Prop := g < w.heap.size ∧ ∀ i j, i < n + 1 → j < size → w.cell? ⟨g, i * size + j, none⟩ = some (.int .i64 (lentF S n i j))
theorem LentAt.below {w w' : World} {g n size : Nat} {S : Nat → Nat → Int} (h : LentAt w g n size S) (hb : Below w.heap.size w w') : LentAt w' g n size S :=
  ⟨Nat.lt_of_lt_of_le h.1 hb.size, fun i j hi hj => (hb.cell (by exact h.1)).trans (h.2 i j hi hj)⟩
theorem LentAt.lies {w : World} {g n size : Nat} {S : Nat → Nat → Int} (h : LentAt w g n size S) : Lies w (some ⟨g, 0, none⟩) n size S := fun _ => ⟨g, 0, rfl, h.1, fun i j hi hj => by
  rw [Nat.zero_add, h.2 i j (by omega) hj]; unfold lentF; rw [if_pos hi]⟩
theorem LentAt.mark {w : World} {g n size : Nat} {S : Nat → Nat → Int} (h : LentAt w g n size S) : ∀ j, j < size → w.cell? ⟨g, n * size + j, none⟩ = some (.int .i64 (if j = 0 then 77 else 0)) := fun j hj => by
  rw [h.2 n j (by omega) hj]; unfold lentF; rw [if_neg (by omega)]
theorem lent_row {w : World} {g n size : Nat} {t : TypeId} {S : Nat → Nat → Int} {cur : Array Value} (h : w.heap[g]? = some (.cells cur t (0, 0))) (hp : ∀ i j, i < n + 1 → j < size → cur[i * size + j]? = some (.int .i64 (lentF S n i j))) : LentAt w g n size S :=
  ⟨(Array.getElem?_eq_some_iff.1 h).1, fun i j hi hj => by rw [cell_of_row _ _ _ _ _ _ h]; exact hp i j hi hj⟩
theorem lent_end {w : World} {b k : Nat} {u5 u6 v0 v1 v2 v3 v4 v5 v6 : Value} (h1 : k ≠ b) (h2 : k ≠ b + 1) :
    (((((((((w.setCell ⟨b, 5, none⟩ u5).setCell ⟨b, 6, none⟩ u6).setCell ⟨b + 1, 0, none⟩ v0).setCell ⟨b + 1, 1, none⟩ v1).setCell ⟨b + 1, 2, none⟩ v2).setCell ⟨b + 1, 3, none⟩ v3).setCell ⟨b + 1, 4, none⟩ v4).setCell ⟨b + 1, 5, none⟩ v5).setCell ⟨b + 1, 6, none⟩ v6).heap[k]? = w.heap[k]? := by
  rw [Below.heap_setCell _ _ _ _ h2, Below.heap_setCell _ _ _ _ h2, Below.heap_setCell _ _ _ _ h2, Below.heap_setCell _ _ _ _ h2, Below.heap_setCell _ _ _ _ h2, Below.heap_setCell _ _ _ _ h2, Below.heap_setCell _ _ _ _ h2, Below.heap_setCell _ _ _ _ h1, Below.heap_setCell _ _ _ _ h1]
theorem set3_other {w : World} {b k o0 o1 o2 : Nat} (h : k ≠ b) {u0 u1 u2 : Value} : (((w.setCell ⟨b, o0, none⟩ u0).setCell ⟨b, o1, none⟩ u1).setCell ⟨b, o2, none⟩ u2).heap[k]? = w.heap[k]? := by
  rw [Below.heap_setCell _ _ _ _ h, Below.heap_setCell _ _ _ _ h, Below.heap_setCell _ _ _ _ h]
theorem set5_other {w : World} {b k o0 o1 o2 o3 o4 : Nat} (h : k ≠ b) {u0 u1 u2 u3 u4 : Value} : (((((w.setCell ⟨b, o0, none⟩ u0).setCell ⟨b, o1, none⟩ u1).setCell ⟨b, o2, none⟩ u2).setCell ⟨b, o3, none⟩ u3).setCell ⟨b, o4, none⟩ u4).heap[k]? = w.heap[k]? := by
  rw [Below.heap_setCell _ _ _ _ h, Below.heap_setCell _ _ _ _ h, Below.heap_setCell _ _ _ _ h, Below.heap_setCell _ _ _ _ h, Below.heap_setCell _ _ _ _ h]
theorem set5_size (w : World) (b o0 o1 o2 o3 o4 : Nat) (u0 u1 u2 u3 u4 : Value) : w.heap.size ≤ (((((w.setCell ⟨b, o0, none⟩ u0).setCell ⟨b, o1, none⟩ u1).setCell ⟨b, o2, none⟩ u2).setCell ⟨b, o3, none⟩ u3).setCell ⟨b, o4, none⟩ u4).heap.size :=
  ((((((Below.refl 0 w).setCell (Nat.zero_le _) u0).setCell (Nat.zero_le _) u1).setCell (Nat.zero_le _) u2).setCell (Nat.zero_le _) u3).setCell (Nat.zero_le _) u4).size

set_option maxRecDepth 100000 in
set_option maxHeartbeats 2000000 in
theorem lent_any (X0 X1 X2 X3 X4 : Int) (S T : Nat → Nat → Int) (aos aor : Option Addr) (n m caps capr : Nat) (w : World) (hn : n * 40 ≤ 140737488355328) (hm : m * 24 ≤ 140737488355328) (hs : Lies w aos n 5 S) (hr : Lies w aor m 3 T) :
    Calls Tryz.prog 25 #[.agg #[.int .i64 X0, .int .i64 X1, .int .i64 X2, .int .i64 X3, .int .i64 X4, .slice aos n caps, .slice aor m capr]] w fun e w' => ∃ gs gr, e = .returned (.agg #[.int .i64 X0, .int .i64 X1, .int .i64 X2, .int .i64 X3, .int .i64 X4, .slice (some ⟨gs, 0, none⟩) n (n + 1), .slice (some ⟨gr, 0, none⟩) m (m + 1)]) ∧ LentAt w' gs n 5 S ∧ LentAt w' gr m 3 T ∧ Below w.heap.size w w' := by
  obtain ⟨i0, hi, hz0, hz1, hz2⟩ := info_parts Tryz.infoStop
  obtain ⟨j0, hj, hy0, hy1, hy2⟩ := info_parts Tryz.infoRoad
  have HS := hid hs
  have HR := hid hr
  clear hs hr
  have hn' : n ≤ 3518437208884 := by omega
  have hm' : m ≤ 5864062014806 := by omega
  go_enter Tryz.func25, Tryz.ntmps25
  go_wp2_with (refine wpList_make_full _ rfl _ _ 33 rfl (w.heap.size + 2) 50 i0 (.agg #[.int .i64 0, .int .i64 0, .int .i64 0, .int .i64 0, .int .i64 0]) 5 Tryz.underlying33 hi hz0 hz1 .i64 .i64 _ _ (n + 1) rfl rfl ?a1 ?a2 ?a3 ?a4 ?a5 ?_)
  case a1 => omega
  case a2 => omega
  case a3 => rw [hz2]; omega
  case a4 => unfold maxLen; omega
  case a5 => simp
  intro w1 hown1 hgr1
  obtain ⟨g1, cur1, eg1, hg1, hsz1, hx1, hzz1, hb1⟩ : ∃ g1 cur1, g1 = w.heap.size + 2 ∧ w1.heap[g1]? = some (.cells cur1 50 (0, 0)) ∧ cur1.size = (n + 1) * 5 ∧ w1.heap[w.heap.size]? = some (.cells #[.int .i64 X0, .int .i64 X1, .int .i64 X2, .int .i64 X3, .int .i64 X4, .slice aos n caps, .slice aor m capr] 36 (0, 0)) ∧ w1.heap[w.heap.size + 1]? = some (.cells zero7 36 (0, 0)) ∧ Below w.heap.size w w1 := by
    rcases hown1.2 with ⟨hh, _⟩ | ⟨g, cap, cur, hv, _, hg, _, _, hz, _⟩
    · cases hh
    · simp only [Value.slice.injEq, Option.some.injEq, Addr.mk.injEq] at hv
      obtain ⟨⟨hv1, _⟩, _, hv2⟩ := hv
      refine ⟨g, cur, by first | (rw [← hv1]; done) | (rw [← hv1]; simp), hg, by rw [hz, ← hv2], ?_, ?_, ?_⟩
      · rw [hgr1.block _ (by first | (simp; done) | (simp; omega)) (by simp)]; exact heap_alloc2_first w _ _
      · rw [hgr1.block _ (by simp) (by simp)]; exact new_second w _ _
      · exact (below2 w _ _).trans ((Below.refl _ _).grown hgr1 (by simp; omega) (fun k hk => by cases hk))
  have c5 : w1.cell? ⟨w.heap.size, 5, none⟩ = some (.slice aos n caps) := by rw [cell_of_row _ _ _ _ _ _ hx1]; rfl
  have hl1 : w.heap.size < w1.heap.size := (Array.getElem?_eq_some_iff.1 hx1).1
  have hgl1 : g1 < w1.heap.size := (Array.getElem?_eq_some_iff.1 hg1).1
  have HS1 := hid (HS.out.below hb1)
  have HG1 := hid hg1
  have HX1 := hid hx1
  have HZ1 := hid hzz1
  have HB1 := hid hb1
  have HSZ1 := hid hsz1
  clear hown1 hgr1 hg1 hx1 hzz1 hb1 hsz1
  subst eg1
  go_wp2_with (refine wpList_copy_size rfl _ _ 33 33 rfl 50 5 Tryz.underlying33 (by rw [hi]; simp [hz1]) (w.heap.size + 2) (n + 1) (n + 1) aos n caps rfl rfl cur1 50 HG1.out (cellsL S n 5) (by omega) (cellsL_length S n 5) (lies_src HS1.out (by omega)) (by rw [cellsL_length, HSZ1.out]; omega) (cellsL_one S n 5) ?_)
  intro w2 hg2 hgr2
  obtain ⟨cur2, ec2⟩ : ∃ cur2, cur2 = (cellsL S n 5 ++ List.drop (cellsL S n 5).length cur1.toList).toArray := ⟨_, rfl⟩
  rw [← ec2] at hg2
  have hsz2 : cur2.size = (n + 1) * 5 := by rw [ec2]; have := HSZ1.out; simp [cellsL_length]; omega
  have hp2 : ∀ i j, i < n → j < 5 → cur2[i * 5 + j]? = some (.int .i64 (S i j)) := fun i j hi hj => by rw [ec2]; exact copied_at hi hj
  have hx2 : w2.heap[w.heap.size]? = _ := (hgr2.block _ hl1 (by simp)).trans HX1.out
  have hz2' : w2.heap[w.heap.size + 1]? = _ := (hgr2.block _ (by omega) (by simp)).trans HZ1.out
  have hb2 : Below w.heap.size w w2 := HB1.out.grown hgr2 (by omega) (fun k hk => by cases hk; omega)
  have ee : ∀ q, q < 5 → w2.cell? ⟨w.heap.size + 2, n * 5 + q, none⟩ = some (cur2.getD (n * 5 + q) (.int .i64 0)) := fun q hq => by
    have hq' : n * 5 + q < cur2.size := by omega
    rw [cell_of_row _ _ _ _ _ _ hg2, Array.getElem?_eq_getElem hq']; simp [Array.getD, hq']
  have e0 : w2.cell? ⟨w.heap.size + 2, n * 5, none⟩ = some (cur2.getD (n * 5) (.int .i64 0)) := ee 0 (by omega)
  have e1 : w2.cell? ⟨w.heap.size + 2, n * 5 + 1, none⟩ = some (cur2.getD (n * 5 + 1) (.int .i64 0)) := ee 1 (by omega)
  have e2 : w2.cell? ⟨w.heap.size + 2, n * 5 + 2, none⟩ = some (cur2.getD (n * 5 + 2) (.int .i64 0)) := ee 2 (by omega)
  have e3 : w2.cell? ⟨w.heap.size + 2, n * 5 + 3, none⟩ = some (cur2.getD (n * 5 + 3) (.int .i64 0)) := ee 3 (by omega)
  have e4 : w2.cell? ⟨w.heap.size + 2, n * 5 + 4, none⟩ = some (cur2.getD (n * 5 + 4) (.int .i64 0)) := ee 4 (by omega)
  have ef : ∀ o, w2.frozen? ⟨w.heap.size + 2, o, none⟩ = false := fun o => frozen_of_row w2 _ o _ _ hg2
  have d5 : w2.cell? ⟨w.heap.size, 5, none⟩ = some (.slice aos n caps) := by rw [cell_of_row _ _ _ _ _ _ hx2]; rfl
  have d6 : w2.cell? ⟨w.heap.size, 6, none⟩ = some (.slice aor m capr) := by rw [cell_of_row _ _ _ _ _ _ hx2]; rfl
  have hl2 : w.heap.size < w2.heap.size := (Array.getElem?_eq_some_iff.1 hx2).1
  have hgl2 : w.heap.size + 2 < w2.heap.size := (Array.getElem?_eq_some_iff.1 hg2).1
  have HG2 := hid hg2
  have HX2 := hid hx2
  have HZ2 := hid hz2'
  have HB2 := hid hb2
  have HP2 := hid hp2
  have HSZ2 := hid hsz2
  clear ee hg2 hx2 hz2' hb2 hp2 hsz2 hgr2 ec2 HG1 HX1 HZ1 HB1 HSZ1 HS1 c5 hl1 hgl1
  go_wp2_with (refine wpList_make_full _ rfl _ _ 34 rfl (w.heap.size + 3) 52 j0 (.agg #[.int .i64 0, .int .i64 0, .int .i64 0]) 3 Tryz.underlying34 hj hy0 hy1 .i64 .i64 _ _ (m + 1) rfl rfl ?a1 ?a2 ?a3 ?a4 ?a5 ?_)
  case a1 => omega
  case a2 => omega
  case a3 => rw [hy2]; omega
  case a4 => unfold maxLen; omega
  case a5 => exact Nat.le_trans hgl2 (set5_size w2 _ _ _ _ _ _ _ _ _ _ _)
  intro w4 hown4 hgr4
  obtain ⟨W3, hgr, ⟨cur3, hg3, hp3⟩, hx3, hz3, hb3⟩ : ∃ W3 : World, W3.grownBy w4 none ∧ (∃ cur3, W3.heap[w.heap.size + 2]? = some (.cells cur3 50 (0, 0)) ∧ ∀ i j, i < n + 1 → j < 5 → cur3[i * 5 + j]? = some (.int .i64 (lentF S n i j))) ∧ W3.heap[w.heap.size]? = some (.cells #[.int .i64 X0, .int .i64 X1, .int .i64 X2, .int .i64 X3, .int .i64 X4, .slice aos n caps, .slice aor m capr] 36 (0, 0)) ∧ W3.heap[w.heap.size + 1]? = some (.cells zero7 36 (0, 0)) ∧ Below w.heap.size w W3 := by
    refine ⟨_, hgr4, fillJ5 HG2.out HSZ2.out HP2.out, ?_, ?_, ?_⟩
    · rw [set5_other (by omega)]; exact HX2.out
    · rw [set5_other (by omega)]; exact HZ2.out
    · exact ((((HB2.out.setCell (by show w.heap.size ≤ w.heap.size + 1 + 1; omega) _).setCell (by show w.heap.size ≤ w.heap.size + 1 + 1; omega) _).setCell (by show w.heap.size ≤ w.heap.size + 1 + 1; omega) _).setCell (by show w.heap.size ≤ w.heap.size + 1 + 1; omega) _).setCell (by show w.heap.size ≤ w.heap.size + 1 + 1; omega) _
  clear hgr4
  obtain ⟨cur4, hg4, hsz4⟩ : ∃ cur4, w4.heap[w2.heap.size]? = some (.cells cur4 52 (0, 0)) ∧ cur4.size = (m + 1) * 3 := by
    rcases hown4.2 with ⟨hh, _⟩ | ⟨g, cap, cur, hv, _, hg, _, _, hz, _⟩
    · cases hh
    · simp only [Value.slice.injEq, Option.some.injEq, Addr.mk.injEq] at hv
      obtain ⟨⟨hv1, _⟩, _, hv2⟩ := hv
      exact ⟨cur, by rw [hv1]; exact hg, by rw [hz, ← hv2]⟩
  have hl3 : w.heap.size + 2 < W3.heap.size := (Array.getElem?_eq_some_iff.1 hg3).1
  have hx4 : w4.heap[w.heap.size]? = _ := (hgr.block _ (by omega) (by simp)).trans hx3
  have hz4 : w4.heap[w.heap.size + 1]? = _ := (hgr.block _ (by omega) (by simp)).trans hz3
  have hs4 : w4.heap[w.heap.size + 2]? = _ := (hgr.block _ hl3 (by simp)).trans hg3
  have hb4 : Below w.heap.size w w4 := hb3.grown hgr (by omega) (fun k hk => by cases hk)
  have HR4 := hid (HR.out.below hb4)
  have d6 : w4.cell? ⟨w.heap.size, 6, none⟩ = some (.slice aor m capr) := by rw [cell_of_row _ _ _ _ _ _ hx4]; rfl
  have hl4 : w.heap.size < w4.heap.size := (Array.getElem?_eq_some_iff.1 hx4).1
  have hne : w2.heap.size ≠ w.heap.size + 2 := by omega
  have hg4w : w.heap.size + 2 < w2.heap.size := hgl2
  have HG4 := hid hg4
  have HSZ4 := hid hsz4
  have HX4 := hid hx4
  have HZ4 := hid hz4
  have HS4 := hid hs4
  have HB4 := hid hb4
  have HP3 := hid hp3
  clear hown4 hgr hg3 hx3 hz3 hb3 hg4 hsz4 hx4 hz4 hs4 hb4 hp3 e0 e1 e2 e3 e4 ef d5 HG2 HX2 HZ2 HB2 HP2 HSZ2 hl2
  go_wp2_with (refine wpList_copy_size rfl _ _ 34 34 rfl 52 3 Tryz.underlying34 (by rw [hj]; simp [hy1]) w2.heap.size (m + 1) (m + 1) aor m capr rfl rfl cur4 52 HG4.out (cellsL T m 3) (by omega) (cellsL_length T m 3) (lies_src HR4.out (by omega)) (by rw [cellsL_length, HSZ4.out]; omega) (cellsL_one T m 3) ?_)
  intro w5 hg5 hgr5
  obtain ⟨cur5, ec5⟩ : ∃ cur5, cur5 = (cellsL T m 3 ++ List.drop (cellsL T m 3).length cur4.toList).toArray := ⟨_, rfl⟩
  rw [← ec5] at hg5
  have hsz5 : cur5.size = (m + 1) * 3 := by rw [ec5]; have := HSZ4.out; simp [cellsL_length]; omega
  have hp5 : ∀ i j, i < m → j < 3 → cur5[i * 3 + j]? = some (.int .i64 (T i j)) := fun i j hi hj => by rw [ec5]; exact copied_at hi hj
  have hx5 : w5.heap[w.heap.size]? = _ := (hgr5.block _ hl4 (by simp; omega)).trans HX4.out
  have hz5 : w5.heap[w.heap.size + 1]? = _ := (hgr5.block _ (Array.getElem?_eq_some_iff.1 HZ4.out).1 (by simp; omega)).trans HZ4.out
  have hs5 : w5.heap[w.heap.size + 2]? = _ := (hgr5.block _ (Array.getElem?_eq_some_iff.1 HS4.out).1 (by simp; omega)).trans HS4.out
  have hb5 : Below w.heap.size w w5 := HB4.out.grown hgr5 (by omega) (fun k hk => by cases hk; omega)
  have ee : ∀ q, q < 3 → w5.cell? ⟨w2.heap.size, m * 3 + q, none⟩ = some (cur5.getD (m * 3 + q) (.int .i64 0)) := fun q hq => by
    have hq' : m * 3 + q < cur5.size := by omega
    rw [cell_of_row _ _ _ _ _ _ hg5, Array.getElem?_eq_getElem hq']; simp [Array.getD, hq']
  have e0 : w5.cell? ⟨w2.heap.size, m * 3, none⟩ = some (cur5.getD (m * 3) (.int .i64 0)) := ee 0 (by omega)
  have e1 : w5.cell? ⟨w2.heap.size, m * 3 + 1, none⟩ = some (cur5.getD (m * 3 + 1) (.int .i64 0)) := ee 1 (by omega)
  have e2 : w5.cell? ⟨w2.heap.size, m * 3 + 2, none⟩ = some (cur5.getD (m * 3 + 2) (.int .i64 0)) := ee 2 (by omega)
  have ef : ∀ o, w5.frozen? ⟨w2.heap.size, o, none⟩ = false := fun o => frozen_of_row w5 _ o _ _ hg5
  obtain ⟨x0, x1, x2, x3, x4, x5, x6, xf⟩ := seven hx5
  obtain ⟨p0, p1, p2, p3, p4, p5, p6, pf⟩ := box7 hz5
  have hl5 : w.heap.size < w5.heap.size := (Array.getElem?_eq_some_iff.1 hx5).1
  have hm5 : w.heap.size + 1 < w5.heap.size := (Array.getElem?_eq_some_iff.1 hz5).1
  have hgl5 : w2.heap.size < w5.heap.size := (Array.getElem?_eq_some_iff.1 hg5).1
  have n1 : w2.heap.size ≠ w.heap.size := by omega
  have n2 : w2.heap.size ≠ w.heap.size + 1 := by omega
  have HG5 := hid hg5
  have HX5 := hid hx5
  have HZ5 := hid hz5
  have HS5 := hid hs5
  have HB5 := hid hb5
  have HP5 := hid hp5
  have HSZ5 := hid hsz5
  clear ee hg5 hx5 hz5 hs5 hb5 hp5 hsz5 hgr5 ec5 HG4 HX4 HZ4 HS4 HB4 HSZ4 HR4 d6 hl4
  go_wp2_with fail
  refine bodyPost_ret (v := .agg #[.int .i64 X0, .int .i64 X1, .int .i64 X2, .int .i64 X3, .int .i64 X4, .slice (some ⟨w.heap.size + 1 + 1, 0, none⟩) n (n + 1), .slice (some ⟨w2.heap.size, 0, none⟩) m (m + 1)]) (by simp [results, Tryz.results25, go_sem, p0, p1, p2, p3, p4, p5, p6]) rfl ?_
  refine ⟨w.heap.size + 1 + 1, w2.heap.size, rfl, ?_, ?_, ?_⟩
  · refine lent_row (t := 50) (cur := cur3) ?_ HP3.out
    rw [lent_end (by omega) (by omega), set3_other (by omega)]; exact HS5.out
  · obtain ⟨cur6, hg6, hp6⟩ := fillJ3 HG5.out HSZ5.out HP5.out
    refine lent_row (t := 52) (cur := cur6) ?_ hp6
    rw [lent_end (by omega) (by omega)]; exact hg6
  · exact (((((HB5.out.setCell (by show w.heap.size ≤ w2.heap.size; omega) _).setCell (by show w.heap.size ≤ w2.heap.size; omega) _).setCell (by show w.heap.size ≤ w2.heap.size; omega) _).setCell (Nat.le_refl _) _).setCell (Nat.le_refl _) _).trans (below_put7 _ _ _ (by omega) _ _ _ _ _ _ _)
end Go.Proofs.YtebinaopncclgaaGreatDoor
