/- Walks of the statements: squares that are lent, and kept. -/
import Derived.WalkKit
import Derived.Laws.CopyOwn
import Derived.Test.YtebinaopncclgabGreatDoorAFault
namespace Go.Proofs.YtebinaopncclgabGreatDoor
open Go Go.RowKit

theorem run_copy_size {P : Program} (w : World) (dT sT ty elem : TypeId) (g o dLen dCap : Nat) (a : Addr) (sLen sCap : Nat) (cur : Array Value) (t : TypeId) (cs : List Value) (size k : Nat)
    (hu : P.underlying dT = some (.slice elem)) (hs : (P.info? elem).map (·.size) = some size)
    (hg : w.heap[g]? = some (.cells cur t (0, 0))) (hk : Nat.min sLen dLen = k) (hn : cs.length = k * size)
    (hsrc : ∀ j v, cs[j]? = some v → w.cell? (a.add j) = some v) (hfit : o + cs.length ≤ cur.size) (h1 : ∀ v ∈ cs, v.oneCell' = true) :
    (Builtin.copy_ #[dT, sT] ty #[.slice (some ⟨g, o, none⟩) dLen dCap, .slice (some a) sLen sCap]).run P w =
      .ok (goInt k) (w.setRow g (cur.toList.take o ++ cs ++ cur.toList.drop (o + cs.length)).toArray) := by
  have hl := run_loadCells_list (P := P) w a cs hsrc
  have hst := run_storeCells_at P g o t cs 0 cur w hg (by simpa using hfit) h1
  cases hq : P.info? elem with
  | none => simp [hq] at hs
  | some i =>
    have hi : i.size = size := by simpa [hq] using hs
    have hkk : min sLen dLen = k := hk
    simp [Builtin.copy_, run_underlying hu, Builtin.lenOf, Builtin.firstCells, sizeOf, typeInfo, hq, hi, hkk, ← hn, hl, hst]
theorem run_copy_zero {P : Program} (w : World) (dT sT ty elem : TypeId) (d a : Option Addr) (dLen dCap sLen sCap size : Nat) (hu : P.underlying dT = some (.slice elem)) (hs : (P.info? elem).map (·.size) = some size) (hn : Nat.min sLen dLen = 0) :
    (Builtin.copy_ #[dT, sT] ty #[.slice d dLen dCap, .slice a sLen sCap]).run P w = .ok (goInt 0) w := by
  cases hq : P.info? elem with
  | none => simp [hq] at hs
  | some i =>
    have hl : ∀ (x : Addr), (loadCells x 0).run P w = .ok #[] w := fun x => by simpa using run_loadCells_list (P := P) w x [] (by simp)
    have hkk : min sLen dLen = 0 := hn
    cases d <;> cases a <;> simp [Builtin.copy_, run_underlying hu, Builtin.lenOf, Builtin.firstCells, sizeOf, typeInfo, hq, hkk, storeCells, hl]

/- the whole of a list goes over onto the head of a row -/
theorem wpList_copy_size {P : Program} {w : World} {ops : Array Oper} {rest : List Oper} {o : Oper} {a : Act} {Q : Exit → Act → World → Prop} (hgd : o.guard = none) (d s : Operand) (dT sT : TypeId)
    (ho : o.op = .call { callee := .builtin .copy, args := #[d, s], argTypes := #[dT, sT] }) (elem : TypeId) (size : Nat) (hu : P.underlying dT = some (.slice elem)) (hsz : (P.info? elem).map (·.size) = some size)
    (g dLen dCap : Nat) (sp : Option Addr) (sLen sCap : Nat) (hd : a.eval d = .slice (some ⟨g, 0, none⟩) dLen dCap) (hs : a.eval s = .slice sp sLen sCap)
    (cur : Array Value) (t : TypeId) (hg : w.heap[g]? = some (.cells cur t (0, 0))) (cs : List Value) (hk : sLen ≤ dLen) (hn : cs.length = sLen * size)
    (hpos : 0 < sLen → ∃ ad, sp = some ad ∧ ∀ j v, cs[j]? = some v → w.cell? (ad.add j) = some v)
    (hfit : cs.length ≤ cur.size) (h1 : ∀ v ∈ cs, v.oneCell' = true)
    (h : ∀ w', w'.heap[g]? = some (.cells (cs ++ cur.toList.drop cs.length).toArray t (0, 0)) → w.grownBy w' (some g) → wpList P ops Q rest (a.put o.dst (goInt sLen)) w') :
    wpList P ops Q (o :: rest) a w := by
  have hmin : Nat.min sLen dLen = sLen := Nat.min_eq_left hk
  refine wpList_plain hgd fun K hK => ?_
  rcases Nat.eq_zero_or_pos sLen with h0 | h0
  · subst h0
    have hrun := run_copy_zero (P := P) w dT sT o.type elem (some ⟨g, 0, none⟩) sp dLen dCap 0 sCap size hu hsz hmin
    unfold Oper.wp
    simp [execOp, ho, resolve, invoke, builtin, hd, hs, hrun, Result.andThen]
    obtain rfl : cs = [] := List.eq_nil_of_length_eq_zero (by simpa using hn)
    exact hK _ _ (h w (by simpa using hg) ⟨rfl, rfl, rfl, Nat.le_refl _, fun _ _ _ => rfl⟩)
  · obtain ⟨ad, rfl, hsrc⟩ := hpos h0
    have hrun := run_copy_size (P := P) w dT sT o.type elem g 0 dLen dCap ad sLen sCap cur t cs size sLen hu hsz hg hmin hn hsrc (by simpa using hfit) h1
    unfold Oper.wp
    simp [execOp, ho, resolve, invoke, builtin, hd, hs, hrun, Result.andThen]
    refine hK _ _ (h _ ?_ ⟨rfl, rfl, rfl, by simp [World.setRow], fun k _ hk => setRow_other w g k _ (fun e => hk (by rw [e]))⟩)
    simpa using setRow_heap w g cur _ t _ hg
end Go.Proofs.YtebinaopncclgabGreatDoor
namespace Go.Proofs.YtebinaopncclgabGreatDoor
open Go.RowKit Go.IntWalk

/- a list of numbers that can be read -/
def RowZ (w : World) (ao : Option Addr) (n : Nat) (q : Nat → Int) : Prop := 0 < n → ∃ b o, ao = some ⟨b, o, none⟩ ∧ b < w.heap.size ∧ ∀ j, j < n → w.cell? ⟨b, o + j, none⟩ = some (.int .i64 (q j))
theorem RowZ.below {w w' : World} {ao : Option Addr} {n : Nat} {q : Nat → Int} (h : RowZ w ao n q) (hb : Below w.heap.size w w') : RowZ w' ao n q := fun hn => by
  obtain ⟨b, o, h1, h2, h3⟩ := h hn
  exact ⟨b, o, h1, Nat.lt_of_lt_of_le h2 hb.size, fun j hj => (hb.cell (by exact h2)).trans (h3 j hj)⟩
/- one that was lent -/
def LentI (w : World) (g n : Nat) (q : Nat → Int) : Prop := ∃ cs, w.heap[g]? = some (.cells cs 3 (0, 0)) ∧ cs.size = n + 2 ∧ (∀ j, j < n → cs[j]? = some (.int .i64 (q j))) ∧ cs[n]? = some (.int .i64 77) ∧ cs[n + 1]? = some (.int .i64 77)
theorem LentI.lt {w : World} {g n : Nat} {q : Nat → Int} (h : LentI w g n q) : g < w.heap.size := by obtain ⟨cs, hc, _⟩ := h; exact (Array.getElem?_eq_some_iff.1 hc).1
theorem LentI.block {w w' : World} {g n : Nat} {q : Nat → Int} (h : LentI w g n q) (hb : w'.heap[g]? = w.heap[g]?) : LentI w' g n q := by
  obtain ⟨cs, hc, h2⟩ := h; exact ⟨cs, hb.trans hc, h2⟩
theorem LentI.row {w : World} {g n : Nat} {q : Nat → Int} (h : LentI w g n q) : RowZ w (some ⟨g, 0, none⟩) n q := fun _ => by
  obtain ⟨cs, hc, h2, h3, _⟩ := id h
  exact ⟨g, 0, rfl, h.lt, fun j hj => by rw [cell_of_row _ _ _ _ _ _ hc, Nat.zero_add]; exact h3 j hj⟩

def cellsI (q : Nat → Int) (n : Nat) : List Value := (List.range n).map fun j => Value.int .i64 (q j)
theorem cellsI_len (q : Nat → Int) (n : Nat) : (cellsI q n).length = n := by simp [cellsI]

set_option maxRecDepth 100000 in
set_option maxHeartbeats 2000000 in
theorem lentI_any (ao : Option Addr) (n c : Nat) (q : Nat → Int) (w : World) (hn : n * 8 ≤ 140737488355328) (hr : RowZ w ao n q) :
    Calls Tryz.prog 111 #[.slice ao n c] w fun e w' => ∃ g, e = .returned (.slice (some ⟨g, 0, none⟩) n (n + 2)) ∧ w.heap.size ≤ g ∧ LentI w' g n q ∧ Below w.heap.size w w' := by
  obtain ⟨i0, hi, hz0, hz1, hz2⟩ := info_parts Tryz.infoInt
  have HR := hid hr
  clear hr
  have hn' : n ≤ 17592186044416 := by omega
  go_enter Tryz.func111, Tryz.ntmps111
  go_wp2_with (refine wpList_make_full _ rfl _ _ 40 rfl w.heap.size 3 i0 (.int .i64 0) 1 Tryz.underlying40 hi hz0 hz1 .i64 .i64 _ _ (n + 2) rfl rfl ?a1 ?a2 ?a3 ?a4 ?a5 ?_)
  case a1 => omega
  case a2 => omega
  case a3 => rw [hz2]; omega
  case a4 => unfold maxLen; omega
  case a5 => exact Nat.le_refl _
  intro w1 hown1 hgr1
  obtain ⟨_, cur1, hg1, hs1, _⟩ := own_row (g := w.heap.size) (by simpa using hown1)
  have hb1 : Below w.heap.size w w1 := (Below.refl _ _).grown hgr1 (Nat.le_refl _) (by simp)
  have HB1 := hid hb1
  have HR1 := hid (HR.out.below hb1)
  have HG1 := hid hg1
  have HS1 := hid hs1
  have hgl1 : w.heap.size < w1.heap.size := (Array.getElem?_eq_some_iff.1 hg1).1
  clear hown1 hgr1 hb1 hg1 hs1
  go_wp2_with (refine wpList_copy_size rfl _ _ 40 40 rfl 3 1 Tryz.underlying40 (by rw [hi]; simp [hz1]) w.heap.size (n + 2) (n + 2) ao n c rfl rfl cur1 3 HG1.out (cellsI q n) (by omega) (by rw [cellsI_len]; omega) ?b1 ?b2 ?b3 ?_)
  case b1 =>
    intro h0
    obtain ⟨b, o, h1, h2, h3⟩ := HR1.out h0
    refine ⟨⟨b, o, none⟩, h1, fun j v hv => ?_⟩
    have hj : j < n := by have := (List.getElem?_eq_some_iff.1 hv).1; rw [cellsI_len] at this; exact this
    rw [Addr.add_lit, h3 j hj]
    unfold cellsI at hv
    rw [List.getElem?_map, List.getElem?_range hj] at hv
    exact hv
  case b2 => rw [cellsI_len]; have := HS1.out; omega
  case b3 =>
    intro v hv
    obtain ⟨j, _, rfl⟩ := List.mem_map.1 hv
    rfl
  intro w2 hg2 hgr2
  obtain ⟨cur2, ec2⟩ : ∃ cur2, cur2 = (cellsI q n ++ List.drop (cellsI q n).length cur1.toList).toArray := ⟨_, rfl⟩
  rw [← ec2] at hg2
  have hsz2 : cur2.size = n + 2 := by rw [ec2]; have := HS1.out; simp [cellsI_len]; omega
  have hp2 : ∀ j, j < n → cur2[j]? = some (.int .i64 (q j)) := fun j hj => by
    rw [ec2]
    simp only [List.getElem?_toArray]
    rw [List.getElem?_append_left (by rw [cellsI_len]; exact hj)]
    simp [cellsI, hj]
  have hb2 : Below w.heap.size w w2 := HB1.out.grown hgr2 (by omega) (fun k hk => by cases hk; omega)
  have e0 : w2.cell? ⟨w.heap.size, n, none⟩ = some (cur2.getD n (.int .i64 0)) := by
    rw [cell_of_row _ _ _ _ _ _ hg2, Array.getElem?_eq_getElem (by omega)]; simp [Array.getD, hsz2]
  have ef : ∀ o, w2.frozen? ⟨w.heap.size, o, none⟩ = false := fun o => frozen_of_row w2 _ o _ _ hg2
  have hgl2 : w.heap.size < w2.heap.size := (Array.getElem?_eq_some_iff.1 hg2).1
  have h3 := heap_setCell_same w2 w.heap.size n _ _ (.int .i64 77) hg2
  have e1 : (w2.setCell ⟨w.heap.size, n, none⟩ (.int .i64 77)).cell? ⟨w.heap.size, n + 1, none⟩ = some (cur2.getD (n + 1) (.int .i64 0)) := by
    rw [cell_of_row _ _ _ _ _ _ h3, Array.getElem?_setIfInBounds, if_neg (by omega), Array.getElem?_eq_getElem (by omega)]; simp [Array.getD, hsz2]
  have ef1 : ∀ o, (w2.setCell ⟨w.heap.size, n, none⟩ (.int .i64 77)).frozen? ⟨w.heap.size, o, none⟩ = false := fun o => frozen_of_row _ _ o _ _ h3
  have h4 := heap_setCell_same _ w.heap.size (n + 1) _ _ (.int .i64 77) h3
  have HB2 := hid hb2
  have HL : Hid (LentI ((w2.setCell ⟨w.heap.size, n, none⟩ (.int .i64 77)).setCell ⟨w.heap.size, n + 1, none⟩ (.int .i64 77)) w.heap.size n q) := by
    refine ⟨_, h4, by simp [hsz2], fun j hj => ?_, ?_, ?_⟩
    · rw [Array.getElem?_setIfInBounds, if_neg (by omega), Array.getElem?_setIfInBounds, if_neg (by omega)]; exact hp2 j hj
    · rw [Array.getElem?_setIfInBounds, if_neg (by omega), Array.getElem?_setIfInBounds]; simp [hsz2]
    · rw [Array.getElem?_setIfInBounds]; simp [hsz2]
  have ik : (n : Int) < (n : Int) + 2 := by omega
  have ik1 : (n : Int) + 1 < (n : Int) + 2 := by omega
  have i0n : (0 : Int) ≤ (n : Int) := by omega
  clear hg2 hgr2 ec2 hsz2 hp2 hb2 h3 h4 HG1 HR1 HS1 HB1 HR
  go_wp2_with go_in
  go_ret
  exact ⟨w.heap.size, rfl, Nat.le_refl _, HL.out, (HB2.out.setCell (by exact Nat.le_refl _) _).setCell (by exact Nat.le_refl _) _⟩

set_option maxRecDepth 100000 in
set_option maxHeartbeats 1000000 in
theorem sameZ_any (n ca cb : Nat) (aa ab : Option Addr) (q : Nat → Int) (w : World) (hn : n ≤ 4611686018427387904) (ha : RowZ w aa n q) (hb : RowZ w ab n q) :
    Calls Tryz.prog 59 #[.slice aa n ca, .slice ab n cb] w fun e w' => e = .returned (.bool true) ∧ Below w.heap.size w w' := by
  have HA := hid ha
  have HB0 := hid hb
  clear ha hb
  go_enter Tryz.func59, Tryz.ntmps59
  go_wp2_with go_in
  go_loopw [5] (fun i wr => ∃ k : Nat, k ≤ n ∧ i = .int .i64 k ∧ Hid (Below w.heap.size w wr)) (fun i _ => n - (intOf i).toNat)
  case atStart => exact ⟨0, Nat.zero_le _, rfl, Below.refl _ _⟩
  case round =>
    obtain ⟨k, hk, rfl, HB⟩ := hrel
    by_cases hlt : k < n
    · obtain ⟨b, o, rfl, hbl, hc⟩ := HA.out (by omega)
      obtain ⟨b', o', rfl, hbl', hc'⟩ := HB0.out (by omega)
      have x0 : wr.cell? ⟨b, o + k, none⟩ = _ := (HB.out.cell (by exact hbl)).trans (hc k hlt)
      have x1 : b < wr.heap.size := Nat.lt_of_lt_of_le hbl HB.out.size
      have x2 : wr.cell? ⟨b', o' + k, none⟩ = _ := (HB.out.cell (by exact hbl')).trans (hc' k hlt)
      have x3 : b' < wr.heap.size := Nat.lt_of_lt_of_le hbl' HB.out.size
      have ik : (0 : Int) ≤ (k : Int) := by omega
      have jk : (k : Int) < (n : Int) := by omega
      have e1 : (q k != q k) = false := by simp
      clear hc hc'
      go_wp2_with go_in
      go_quiet (fail)
      go_wp2_with go_in
      go_roundw
      case rel => exact ⟨k + 1, by omega, by go_num, by first | exact HB | exact HB.out.drew | exact below_drewN' HB.out _⟩
      case measure => simp [intOf]; omega
    · go_wp2_with go_in
      go_ret
      exact ⟨rfl, HB.out⟩

set_option maxRecDepth 100000 in
set_option maxHeartbeats 1000000 in
theorem keptI_any (g n c : Nat) (ao : Option Addr) (q : Nat → Int) (w : World) (hn : n * 8 ≤ 140737488355328) (hl : LentI w g n q) (hr : RowZ w ao n q) :
    Calls Tryz.prog 113 #[.slice (some ⟨g, 0, none⟩) n (n + 2), .slice ao n c] w fun e w' => e = .returned (.bool true) ∧ Below w.heap.size w w' := by
  have HC := hid (sameZ_any n (n + 2) c (some ⟨g, 0, none⟩) ao q w (by omega) hl.row hr)
  have HL := hid hl
  have hgl := hl.lt
  clear hl hr
  have hn' : n ≤ 17592186044416 := by omega
  go_enter Tryz.func113, Tryz.ntmps113
  go_wp2_with fail
  refine HC.out.mono ?_
  rintro e1 w1 ⟨rfl, hb1⟩
  have HB1 := hid hb1
  obtain ⟨cs, hc, hs, _, h5, h6⟩ := HL.out.block (hb1.block _ hgl)
  have x0 : w1.cell? ⟨g, n, none⟩ = some (.int .i64 77) := by rw [cell_of_row _ _ _ _ _ _ hc]; exact h5
  have x1 : w1.cell? ⟨g, n + 1, none⟩ = some (.int .i64 77) := by rw [cell_of_row _ _ _ _ _ _ hc]; exact h6
  have hgl1 : g < w1.heap.size := (Array.getElem?_eq_some_iff.1 hc).1
  have ik : (n : Int) < (n : Int) + 2 := by omega
  have ik1 : (n : Int) + 1 < (n : Int) + 2 := by omega
  have i0n : (0 : Int) ≤ (n : Int) := by omega
  clear hb1 hc hs h5 h6 HC HL
  go_wp2_with go_in
  go_ret
  exact ⟨rfl, by first | exact HB1.out | exact HB1.out.drew | exact below_drewN' HB1.out _⟩
end Go.Proofs.YtebinaopncclgabGreatDoor
namespace Go.Proofs.YtebinaopncclgabGreatDoor
open Go.RowKit Go.IntWalk

/- a square that was lent -/
def LentSq (w : World) (B g n : Nat) (G : Nat → Nat) (rn : Nat → Nat) (Q : Nat → Nat → Int) : Prop :=
  (∃ cs g7, B ≤ g ∧ B ≤ g7 ∧ w.heap[g]? = some (.cells cs 40 (0, 0)) ∧ cs.size = n + 1 ∧ (∀ i, i < n → cs[i]? = some (.slice (some ⟨G i, 0, none⟩) (rn i) (rn i + 2))) ∧ cs[n]? = some (.slice (some ⟨g7, 0, none⟩) 1 1) ∧ w.heap[g7]? = some (.cells #[.int .i64 77] 3 (0, 0))) ∧ ∀ i, i < n → B ≤ G i ∧ LentI w (G i) (rn i) (Q i)
theorem LentSq.keep {w w' : World} {B g n : Nat} {G rn : Nat → Nat} {Q : Nat → Nat → Int} (h : LentSq w B g n G rn Q) (hk : ∀ q, B ≤ q → q < w.heap.size → w'.heap[q]? = w.heap[q]?) : LentSq w' B g n G rn Q := by
  obtain ⟨⟨cs, g7, b1, b2, h1, h2, h3, h4, h5⟩, h6⟩ := h
  exact ⟨⟨cs, g7, b1, b2, by rw [hk _ b1 (Array.getElem?_eq_some_iff.1 h1).1]; exact h1, h2, h3, h4, by rw [hk _ b2 (Array.getElem?_eq_some_iff.1 h5).1]; exact h5⟩, fun i hi => ⟨(h6 i hi).1, (h6 i hi).2.block (hk _ (h6 i hi).1 (h6 i hi).2.lt)⟩⟩
theorem LentSq.below {w w' : World} {B g n : Nat} {G rn : Nat → Nat} {Q : Nat → Nat → Int} (h : LentSq w B g n G rn Q) (hb : Below w.heap.size w w') : LentSq w' B g n G rn Q := h.keep fun q _ hq => hb.block q hq
theorem LentSq.rows {w : World} {B g n : Nat} {G rn : Nat → Nat} {Q : Nat → Nat → Int} (h : LentSq w B g n G rn Q) (hr : ∀ i, i < n → rn i ≤ 9223372036854775807) (hq : ∀ i, i < n → ∀ j, j < rn i → -9223372036854775808 ≤ Q i j ∧ Q i j ≤ 9223372036854775807) : LRowsZ w (some ⟨g, 0, none⟩) n (fun i => some ⟨G i, 0, none⟩) rn (fun i => rn i + 2) Q := fun _ => by
  obtain ⟨⟨cs, g7, _, _, h1, h2, h3, h4, h5⟩, h6⟩ := h
  refine ⟨g, 0, rfl, (Array.getElem?_eq_some_iff.1 h1).1, fun i hi => ⟨by rw [cell_of_row _ _ _ _ _ _ h1, Nat.zero_add]; exact h3 i hi, hr i hi, fun h0 => ?_⟩⟩
  obtain ⟨b, o, k1, k2, k3⟩ := (h6 i hi).2.row h0
  exact ⟨b, o, k1, k2, fun j hj => ⟨k3 j hj, hq i hi j hj⟩⟩
theorem setCell_other {w : World} {g k q : Nat} {v : Value} (h : q ≠ g) : (w.setCell ⟨g, k, none⟩ v).heap[q]? = w.heap[q]? := Below.heap_setCell _ _ _ _ (by exact h)

end Go.Proofs.YtebinaopncclgabGreatDoor
