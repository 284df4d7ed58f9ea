/- Walks: the tour of a match. -/
import Derived.Test.YtebinaopncclgabGreatDoorAGive
import Derived.Deep.AppendLies
import Derived.Test.YtebinaopncclgabGreatDoorGTake
import Derived.Test.YtebinaopncclgabGreatDoorSText
import Derived.Test.YtebinaopncclgabGreatDoorCSq
namespace Go.Proofs.YtebinaopncclgabGreatDoor
open Go.RowKit Go.IntWalk

/- a row of numbers, in a block of its own -/
def RowAt (w : World) (g n : Nat) (f : Nat → Int) : Prop := ∃ cs, w.heap[g]? = some (.cells cs 3 (0, 0)) ∧ cs.size = n ∧ ∀ i, i < n → cs[i]? = some (.int .i64 (f i))
theorem RowAt.lt {w : World} {g n : Nat} {f : Nat → Int} (h : RowAt w g n f) : g < w.heap.size := by obtain ⟨cs, hc, _⟩ := h; exact (Array.getElem?_eq_some_iff.1 hc).1
theorem RowAt.cell {w : World} {g n i : Nat} {f : Nat → Int} (h : RowAt w g n f) (hi : i < n) : w.cell? ⟨g, i, none⟩ = some (.int .i64 (f i)) := by
  obtain ⟨cs, hc, _, hf⟩ := h
  rw [cell_of_row _ _ _ _ _ _ hc]; exact hf i hi
theorem RowAt.frozen {w : World} {g n : Nat} {f : Nat → Int} (h : RowAt w g n f) (k : Nat) : w.frozen? ⟨g, k, none⟩ = false := by obtain ⟨cs, hc, _⟩ := h; exact frozen_of_row w g k _ _ hc
theorem RowAt.block {w w' : World} {g n : Nat} {f : Nat → Int} (h : RowAt w g n f) (hb : w'.heap[g]? = w.heap[g]?) : RowAt w' g n f := by
  obtain ⟨cs, hc, h2⟩ := h; exact ⟨cs, hb.trans hc, h2⟩
theorem RowAt.aside {w : World} {g q n o : Nat} {f : Nat → Int} (h : RowAt w g n f) (hne : g ≠ q) (x : Value) : RowAt (w.setCell ⟨q, o, none⟩ x) g n f := h.block (Below.heap_setCell _ _ _ _ (by exact hne))
theorem RowAt.put {w : World} {g n k : Nat} {f : Nat → Int} (h : RowAt w g n f) (hk : k < n) (x : Int) : RowAt (w.setCell ⟨g, k, none⟩ (.int .i64 x)) g n (up1 f k x) := by
  have h0 := h.cell hk
  obtain ⟨cs, hc, hs, hf⟩ := id h
  have hb := heap_setCell_same w g k cs 3 (.int .i64 x) hc
  refine ⟨_, hb, by simpa using hs, fun i hi => ?_⟩
  have h1 := net_cells hc h0 (.int .i64 x) (h.cell hi)
  rw [cell_of_row _ _ _ _ _ _ hb] at h1
  rw [h1]
  unfold up1
  by_cases e : i = k
  · rw [if_pos e, if_pos e]
  · rw [if_neg e, if_neg e]

theorem five_at (w : World) (o0 o1 o2 o3 o4 : Obj) : Below w.heap.size w (((((w.alloc o0).alloc o1).alloc o2).alloc o3).alloc o4).drew ∧ (((((w.alloc o0).alloc o1).alloc o2).alloc o3).alloc o4).drew.heap[w.heap.size]? = some o0 ∧ (((((w.alloc o0).alloc o1).alloc o2).alloc o3).alloc o4).drew.heap[w.heap.size + 1]? = some o1 ∧ (((((w.alloc o0).alloc o1).alloc o2).alloc o3).alloc o4).drew.heap[w.heap.size + 1 + 1]? = some o2 ∧ (((((w.alloc o0).alloc o1).alloc o2).alloc o3).alloc o4).drew.heap[w.heap.size + 1 + 1 + 1]? = some o3 ∧ (((((w.alloc o0).alloc o1).alloc o2).alloc o3).alloc o4).drew.heap[w.heap.size + 1 + 1 + 1 + 1]? = some o4 := by
  have hb : Below w.heap.size w (((((w.alloc o0).alloc o1).alloc o2).alloc o3).alloc o4) := ((((below1 w o0).alloc (by simp) o1).alloc (by simp; omega) o2).alloc (by simp; omega) o3).alloc (by simp; omega) o4
  refine ⟨hb.drew, ?_, ?_, ?_, ?_, ?_⟩
  · show (((((w.heap.push o0).push o1).push o2).push o3).push o4)[w.heap.size]? = _
    rw [Array.getElem?_push, if_neg (by simp only [Array.size_push]; omega), Array.getElem?_push, if_neg (by simp only [Array.size_push]; omega), Array.getElem?_push, if_neg (by simp only [Array.size_push]; omega), Array.getElem?_push, if_neg (by simp only [Array.size_push]; omega), Array.getElem?_push, if_pos rfl]
  · show (((((w.heap.push o0).push o1).push o2).push o3).push o4)[w.heap.size + 1]? = _
    rw [Array.getElem?_push, if_neg (by simp only [Array.size_push]; omega), Array.getElem?_push, if_neg (by simp only [Array.size_push]; omega), Array.getElem?_push, if_neg (by simp only [Array.size_push]; omega), Array.getElem?_push, if_pos (by simp only [Array.size_push])]
  · show (((((w.heap.push o0).push o1).push o2).push o3).push o4)[w.heap.size + 1 + 1]? = _
    rw [Array.getElem?_push, if_neg (by simp only [Array.size_push]; omega), Array.getElem?_push, if_neg (by simp only [Array.size_push]; omega), Array.getElem?_push, if_pos (by simp only [Array.size_push])]
  · show (((((w.heap.push o0).push o1).push o2).push o3).push o4)[w.heap.size + 1 + 1 + 1]? = _
    rw [Array.getElem?_push, if_neg (by simp only [Array.size_push]; omega), Array.getElem?_push, if_pos (by simp only [Array.size_push])]
  · show (((((w.heap.push o0).push o1).push o2).push o3).push o4)[w.heap.size + 1 + 1 + 1 + 1]? = _
    rw [Array.getElem?_push, if_pos (by simp only [Array.size_push])]
theorem colS_succ (ow : Nat → Int) (k : Nat) : colS ow (k + 1) = up1 (colS ow k) (ow k).toNat (k : Int) := rfl
theorem putS_succ (ow x : Nat → Int) (k : Nat) : putS ow x (k + 1) = up1 (putS ow x k) (ow k).toNat (x (ow k).toNat) := rfl
def vS (v : Nat → Int) (k : Nat) : Nat → Int := fun j => if j < k then v j else 0
theorem vS_succ (v : Nat → Int) (k : Nat) : up1 (vS v k) k (v k) = vS v (k + 1) := by
  funext j
  unfold up1 vS
  by_cases e : j = k
  · rw [if_pos e, if_pos (by omega), e]
  · rw [if_neg e]
    by_cases h : j < k
    · rw [if_pos h, if_pos (by omega)]
    · rw [if_neg h, if_neg (by omega)]
theorem RowAt.congr {w : World} {g n : Nat} {f f' : Nat → Int} (h : RowAt w g n f) (e : ∀ i, i < n → f i = f' i) : RowAt w g n f' := by
  obtain ⟨cs, h1, h2, h3⟩ := h
  exact ⟨cs, h1, h2, fun i hi => by rw [h3 i hi, e i hi]⟩
def und54 : List Value := [undef, undef, undef, undef, undef, undef, undef, undef, undef, undef, undef, undef, undef, undef, undef, undef, undef, undef, undef, undef, undef, undef, undef, undef, undef, undef, undef, undef, undef, undef, undef, undef, undef, undef, undef, undef, undef, undef, undef, undef, undef, undef, undef, undef, undef, undef, undef, undef, undef, undef, undef, undef, undef, undef]
/- what the three lists and the answer are, made in whatever order -/
structure Made (w w' : World) (mz : Array Value) (n g1 g2 g3 b : Nat) : Prop where
  bel : Below w.heap.size w w'
  l1 : w.heap.size < g1
  l2 : w.heap.size < g2
  l3 : w.heap.size < g3
  lb : w.heap.size < b
  n12 : g1 ≠ g2
  n13 : g1 ≠ g3
  n23 : g2 ≠ g3
  res : w'.heap[w.heap.size]? = some (.cells #[.bool false, .int .i64 0, .slice none 0 0, .slice none 0 0, .slice none 0 0, .slice none 0 0] 125 (0, 0))
  h1 : w'.heap[g1]? = some (.cells mz 3 (0, 0))
  h2 : w'.heap[g2]? = some (.cells mz 3 (0, 0))
  h3 : w'.heap[g3]? = some (.cells mz 3 (0, 0))
  hb : w'.heap[b]? = some (.cells #[.bool true, .int .i64 0, .slice (some ⟨g1, 0, none⟩) n n, .slice (some ⟨g2, 0, none⟩) n n, .slice (some ⟨g3, 0, none⟩) n n, .slice none 0 0] 125 (0, 0))

def mPost (w : World) (mz : Array Value) (p n : Nat) : Act → World → Prop := fun a w' => ∃ g1 g2 g3 b, a = ⟨List.toArray ([.pointer (some ⟨p, 0, none⟩), undef, .pointer (some ⟨w.heap.size, 0, none⟩), .pointer (some ⟨b, 0, none⟩), undef, undef, .pointer (some ⟨p, 0, none⟩), .pointer (some ⟨p, 0, none⟩), .pointer (some ⟨p, 0, none⟩), .int .i64 n, .slice (some ⟨g1, 0, none⟩) n n, .pointer (some ⟨p, 0, none⟩), .pointer (some ⟨p, 0, none⟩), .pointer (some ⟨p, 0, none⟩), .int .i64 n, .slice (some ⟨g2, 0, none⟩) n n, .pointer (some ⟨p, 0, none⟩), .pointer (some ⟨p, 0, none⟩), .pointer (some ⟨p, 0, none⟩), .int .i64 n, .slice (some ⟨g3, 0, none⟩) n n, .agg #[.bool true, .int .i64 0, .slice (some ⟨g1, 0, none⟩) n n, .slice (some ⟨g2, 0, none⟩) n n, .slice (some ⟨g3, 0, none⟩) n n, .slice none 0 0]] ++ und54), []⟩ ∧ Made w w' mz n g1 g2 g3 b
theorem mPost_mk {w w' : World} {mz : Array Value} {p n g1 g2 g3 b : Nat} {a : Act} (ha : a = ⟨List.toArray ([.pointer (some ⟨p, 0, none⟩), undef, .pointer (some ⟨w.heap.size, 0, none⟩), .pointer (some ⟨b, 0, none⟩), undef, undef, .pointer (some ⟨p, 0, none⟩), .pointer (some ⟨p, 0, none⟩), .pointer (some ⟨p, 0, none⟩), .int .i64 n, .slice (some ⟨g1, 0, none⟩) n n, .pointer (some ⟨p, 0, none⟩), .pointer (some ⟨p, 0, none⟩), .pointer (some ⟨p, 0, none⟩), .int .i64 n, .slice (some ⟨g2, 0, none⟩) n n, .pointer (some ⟨p, 0, none⟩), .pointer (some ⟨p, 0, none⟩), .pointer (some ⟨p, 0, none⟩), .int .i64 n, .slice (some ⟨g3, 0, none⟩) n n, .agg #[.bool true, .int .i64 0, .slice (some ⟨g1, 0, none⟩) n n, .slice (some ⟨g2, 0, none⟩) n n, .slice (some ⟨g3, 0, none⟩) n n, .slice none 0 0]] ++ und54), []⟩) (h : Made w w' mz n g1 g2 g3 b) : mPost w mz p n a w' := ⟨g1, g2, g3, b, ha, h⟩
theorem wp_via {P : Program} {c : Code} {Q : Exit → Act → World → Prop} {a : Act} {w : World} (R : Act → World → Prop) (hi : ∀ a w, R a w → Q .normal a w) (hr : (∀ a w, R a w → Q .normal a w) → Code.wp P c Q a w) : Code.wp P c Q a w := hr hi
/- the answer while it is written -/
structure MSt (w wr : World) (n g1 g2 g3 b : Nat) (c : Int) (f1 f2 f3 : Nat → Int) : Prop where
  mb : wr.heap[b]? = some (.cells #[.bool true, .int .i64 (c), .slice (some ⟨g1, 0, none⟩) n n, .slice (some ⟨g2, 0, none⟩) n n, .slice (some ⟨g3, 0, none⟩) n n, .slice none 0 0] 125 (0, 0))
  r1 : RowAt wr g1 n f1
  r2 : RowAt wr g2 n f2
  r3 : RowAt wr g3 n f3
  rz : wr.heap[w.heap.size]? = some (.cells #[.bool false, .int .i64 0, .slice none 0 0, .slice none 0 0, .slice none 0 0, .slice none 0 0] 125 (0, 0))
  bel : Below w.heap.size w wr
theorem MSt.drew {w wr : World} {n g1 g2 g3 b : Nat} {c : Int} {f1 f2 f3 : Nat → Int} (h : MSt w wr n g1 g2 g3 b c f1 f2 f3) : MSt w wr.drew n g1 g2 g3 b c f1 f2 f3 := ⟨h.mb, h.r1.block rfl, h.r2.block rfl, h.r3.block rfl, h.rz, h.bel.drew⟩
theorem MSt.put1 {w wr : World} {n g1 g2 g3 b k : Nat} {c : Int} {f1 f2 f3 : Nat → Int} (h : MSt w wr n g1 g2 g3 b c f1 f2 f3) (hb : b ≠ g1) (h2 : g1 ≠ g2) (h3 : g1 ≠ g3) (hl : w.heap.size < g1) (hk : k < n) (x : Int) : MSt w (wr.setCell ⟨g1, k, none⟩ (.int .i64 x)) n g1 g2 g3 b c (up1 f1 k x) f2 f3 :=
  ⟨(Below.heap_setCell _ _ _ _ (by exact hb)).trans h.mb, h.r1.put hk x, h.r2.aside (Ne.symm h2) _, h.r3.aside (Ne.symm h3) _, (Below.heap_setCell _ _ _ _ (by show w.heap.size ≠ g1; omega)).trans h.rz, h.bel.setCell (by show w.heap.size ≤ g1; omega) _⟩
theorem MSt.put2 {w wr : World} {n g1 g2 g3 b k : Nat} {c : Int} {f1 f2 f3 : Nat → Int} (h : MSt w wr n g1 g2 g3 b c f1 f2 f3) (hb : b ≠ g2) (h2 : g1 ≠ g2) (h3 : g2 ≠ g3) (hl : w.heap.size < g2) (hk : k < n) (x : Int) : MSt w (wr.setCell ⟨g2, k, none⟩ (.int .i64 x)) n g1 g2 g3 b c f1 (up1 f2 k x) f3 :=
  ⟨(Below.heap_setCell _ _ _ _ (by exact hb)).trans h.mb, h.r1.aside h2 _, h.r2.put hk x, h.r3.aside (Ne.symm h3) _, (Below.heap_setCell _ _ _ _ (by show w.heap.size ≠ g2; omega)).trans h.rz, h.bel.setCell (by show w.heap.size ≤ g2; omega) _⟩
theorem MSt.put3 {w wr : World} {n g1 g2 g3 b k : Nat} {c : Int} {f1 f2 f3 : Nat → Int} (h : MSt w wr n g1 g2 g3 b c f1 f2 f3) (hb : b ≠ g3) (h2 : g1 ≠ g3) (h3 : g2 ≠ g3) (hl : w.heap.size < g3) (hk : k < n) (x : Int) : MSt w (wr.setCell ⟨g3, k, none⟩ (.int .i64 x)) n g1 g2 g3 b c f1 f2 (up1 f3 k x) :=
  ⟨(Below.heap_setCell _ _ _ _ (by exact hb)).trans h.mb, h.r1.aside h2 _, h.r2.aside h3 _, h.r3.put hk x, (Below.heap_setCell _ _ _ _ (by show w.heap.size ≠ g3; omega)).trans h.rz, h.bel.setCell (by show w.heap.size ≤ g3; omega) _⟩
theorem MSt.putC {w wr : World} {n g1 g2 g3 b : Nat} {c : Int} {f1 f2 f3 : Nat → Int} (h : MSt w wr n g1 g2 g3 b c f1 f2 f3) (hb1 : b ≠ g1) (hb2 : b ≠ g2) (hb3 : b ≠ g3) (hl : w.heap.size < b) (x : Int) : MSt w (wr.setCell ⟨b, 1, none⟩ (.int .i64 x)) n g1 g2 g3 b x f1 f2 f3 :=
  ⟨heap_setCell_same wr b 1 _ _ _ h.mb, h.r1.aside (Ne.symm hb1) _, h.r2.aside (Ne.symm hb2) _, h.r3.aside (Ne.symm hb3) _, (Below.heap_setCell _ _ _ _ (by show w.heap.size ≠ b; omega)).trans h.rz, h.bel.setCell (by show w.heap.size ≤ b; omega) _⟩
theorem MSt.cells {w wr : World} {n g1 g2 g3 b : Nat} {c : Int} {f1 f2 f3 : Nat → Int} (h : MSt w wr n g1 g2 g3 b c f1 f2 f3) : b < wr.heap.size ∧ wr.cell? ⟨b, 0, none⟩ = some (.bool true) ∧ wr.cell? ⟨b, 1, none⟩ = some (.int .i64 c) ∧ wr.cell? ⟨b, 2, none⟩ = some (.slice (some ⟨g1, 0, none⟩) n n) ∧ wr.cell? ⟨b, 3, none⟩ = some (.slice (some ⟨g2, 0, none⟩) n n) ∧ wr.cell? ⟨b, 4, none⟩ = some (.slice (some ⟨g3, 0, none⟩) n n) ∧ wr.cell? ⟨b, 5, none⟩ = some (.slice none 0 0) ∧ wr.frozen? ⟨b, 1, none⟩ = false := by
  refine ⟨(Array.getElem?_eq_some_iff.1 h.mb).1, ?_, ?_, ?_, ?_, ?_, ?_, frozen_of_row wr b 1 _ _ h.mb⟩ <;> (rw [cell_of_row _ _ _ _ _ _ h.mb]; rfl)

set_option maxRecDepth 100000 in
set_option maxHeartbeats 4000000 in
theorem match_any (p n : Nat) (C : Nat → Nat → Int) (vc : Value) (u v ow : Nat → Int) (wb w : World) (hn : n ≤ 10) (_hpb : wb.heap.size ≤ p) (hB : Below wb.heap.size wb w) (hsq : SqR wb vc n C) (hc : CellOk n C) (ho : ∀ j, j < n → ∃ i : Nat, ow j = i ∧ i < n) (hcl : ∀ j, j < n → 0 ≤ C (ow j).toNat j) (ht : TabAt w p n vc u v ow) :
    Calls Tryz.prog 181 #[.pointer (some ⟨p, 0, none⟩)] w fun e w' => ∃ g1 g2 g3, e = .returned (.agg #[.bool true, .int .i64 (sumL (fun c => C (ow c).toNat c) (List.range n)), .slice (some ⟨g1, 0, none⟩) n n, .slice (some ⟨g2, 0, none⟩) n n, .slice (some ⟨g3, 0, none⟩) n n, .slice none 0 0]) ∧ w.heap.size ≤ g1 ∧ w.heap.size ≤ g2 ∧ w.heap.size ≤ g3 ∧ g1 ≠ g2 ∧ g1 ≠ g3 ∧ g2 ≠ g3 ∧ RowAt w' g1 n (colS ow n) ∧ RowAt w' g2 n (putS ow u n) ∧ RowAt w' g3 n v ∧ Below w.heap.size w w' := by
  obtain ⟨i0, hi, hz0, hz1, hz2⟩ := info_parts Tryz.infoInt
  have hmk0 : ∀ W : World, (Instr.makeSlice 40 (.int .i64 (n : Int)) (.int .i64 (n : Int))).run Tryz.prog W = .ok (.slice (some ⟨W.heap.size, 0, none⟩) n n) (W.alloc (.cells (madeCells #[Value.int .i64 0] n) 3)) := fun W => by
    have h := run_make (P := Tryz.prog) W 40 3 i0 (.int .i64 0) Tryz.underlying40 hi hz0 .i64 .i64 n n (by omega) (by omega) (by rw [hz2]; omega) (by omega)
    rw [hz1, Nat.mul_one, Int.toNat_natCast] at h
    exact h
  obtain ⟨mz, hmz⟩ : ∃ mz, mz = madeCells #[Value.int .i64 0] n := ⟨_, rfl⟩
  rw [← hmz] at hmk0
  have HMZ : Hid (mz.size = n ∧ ∀ i, i < n → mz[i]? = some (.int .i64 0)) := by
    have e : mz.toList = List.replicate n (.int .i64 0) := by rw [hmz, toList_madeCells_one]
    refine ⟨?_, fun i hi => ?_⟩
    · have := congrArg List.length e; simpa using this
    · rw [← Array.getElem?_toList, e, List.getElem?_replicate, if_pos hi]
  have HT := hid ht
  have t0 := ht.c0
  have hpw := ht.lt
  have HSQ := hid hsq
  have HB := hid hB
  have HO := hid ho
  have HCL := hid hcl
  have HCK := hid hc
  clear hmz hi hz0 hz1 hz2 ht hsq hB hc hcl ho
  go_enter Tryz.func181, Tryz.ntmps181
  go_wp2_with fail
  refine wp_via (mPost w mz p n) ?imp ?reg
  case reg =>
    intro hrest
    have HREST := hid hrest
    clear hrest
    have hp1 : p < w.heap.size + 1 := by omega
    have hp2 : p < w.heap.size + 2 := by omega
    have hp3 : p < w.heap.size + 3 := by omega
    have hp4 : p < w.heap.size + 4 := by omega
    have hp5 : p < w.heap.size + 1 + 1 := by omega
    have hp6 : p < w.heap.size + 1 + 1 + 1 := by omega
    have hp7 : p < w.heap.size + 1 + 1 + 1 + 1 := by omega
    have hp8 : ¬ p = w.heap.size := by omega
    have hp9 : ¬ p = w.heap.size + 1 := by omega
    have hpa : ¬ p = w.heap.size + 2 := by omega
    have hpc : ¬ p = w.heap.size + 3 := by omega
    have hpd : ¬ p = w.heap.size + 4 := by omega
    clear HT HSQ HB HMZ HO HCL HCK
    go_region
    all_goals
      refine HREST.out _ _ (mPost_mk rfl ?_)
      obtain ⟨x0, x1, x2, x3, x4, x5⟩ := five_at w _ _ _ _ _
      exact ⟨x0, by omega, by omega, by omega, by omega, by omega, by omega, by omega, x1, by assumption, by assumption, by assumption, by assumption⟩
  case imp =>
    intro a w1 hre
    unfold mPost at hre
    obtain ⟨g1, g2, g3, b, rfl, hmd⟩ := hre
    simp only [und54, List.cons_append, List.nil_append]
    have hbl : b < w1.heap.size := (Array.getElem?_eq_some_iff.1 hmd.hb).1
    have hb1 : b ≠ g1 := fun e => by have h := hmd.hb; rw [e, hmd.h1] at h; cases h
    have hb2 : b ≠ g2 := fun e => by have h := hmd.hb; rw [e, hmd.h2] at h; cases h
    have hb3 : b ≠ g3 := fun e => by have h := hmd.hb; rw [e, hmd.h3] at h; cases h
    have hn12 := hmd.n12
    have hn13 := hmd.n13
    have hn23 := hmd.n23
    have hl1 := hmd.l1
    have hl2 := hmd.l2
    have hl3 := hmd.l3
    have hlb := hmd.lb
    have HM0 : Hid (MSt w w1 n g1 g2 g3 b 0 (colS ow 0) (putS ow u 0) (vS v 0)) := ⟨hmd.hb, ⟨mz, hmd.h1, HMZ.out.1, HMZ.out.2⟩, ⟨mz, hmd.h2, HMZ.out.1, HMZ.out.2⟩, ⟨mz, hmd.h3, HMZ.out.1, fun i hi => by rw [HMZ.out.2 i hi]; unfold vS; rw [if_neg (by omega)]⟩, hmd.res, hmd.bel⟩
    obtain ⟨ct, hct⟩ : ∃ ct : Nat → Int, ct = fun k => sumL (fun c => C (ow c).toNat c) (List.range k) := ⟨_, rfl⟩
    have HC0 : Hid (ct 0 = 0) := by show _ = _; rw [hct]; rfl
    have HC1 : Hid (∀ k, ct (k + 1) = ct k + C (ow k).toNat k) := fun k => by rw [hct]; simp [List.range_succ, sumL_append, sumL]
    have HCN : Hid (ct n = sumL (fun c => C (ow c).toNat c) (List.range n)) := by show _ = _; rw [hct]
    clear hmd hct hmk0 HMZ
    go_wp2_with fail
    go_loopw [4] (fun i wr => ∃ k : Nat, k ≤ n ∧ i = .int .i64 k ∧ (0 ≤ ct k ∧ ct k ≤ (k : Int) * 200000) ∧ Hid (MSt w wr n g1 g2 g3 b (ct k) (colS ow k) (putS ow u k) (vS v k))) (fun i _ => n - (intOf i).toNat)
    case atStart => exact ⟨0, Nat.zero_le _, rfl, by rw [HC0.out]; omega, by rw [HC0.out]; exact HM0⟩
    case round =>
      clear HM0 hbl hpw t0
      obtain ⟨k, hk, rfl, hck, HM⟩ := hrel
      have HT1 := hid (HT.out.below HM.out.bel)
      have t0 := HT1.out.c0
      have hpw := HT1.out.lt
      obtain ⟨hbw, m0, m1, m2, m3, m4, m5, mf⟩ := HM.out.cells
      by_cases hlt : k < n
      · obtain ⟨i, hi', hin⟩ := HO.out k hlt
        have o0 := HT1.out.co k (by omega)
        rw [hi'] at o0
        have r1 := HM.out.r1.cell hin
        have rf := HM.out.r1.frozen i
        have hg1 := HM.out.r1.lt
        have ik : (0 : Int) ≤ (k : Int) := by omega
        have jk : (k : Int) < 10 := by omega
        have jkn : (k : Int) < (n : Int) := by omega
        have ii : (0 : Int) ≤ (i : Int) := by omega
        have ji : (i : Int) < 10 := by omega
        have jin : (i : Int) < (n : Int) := by omega
        have HCI : Hid (ct (k + 1) = ct k + C i k) := by show _ = _; rw [HC1.out, hi']; simp
        have hcb : 0 ≤ C i k ∧ C i k ≤ 200000 := by have h1 := HCL.out k hlt; rw [hi'] at h1; simp at h1; exact ⟨h1, (HCK.out i k hin hlt).2⟩
        have HU1 : Hid (colS ow (k + 1) = up1 (colS ow k) i (k : Int)) := by show _ = _; rw [colS_succ, hi', Int.toNat_natCast]
        have HU2 : Hid (putS ow u (k + 1) = up1 (putS ow u k) i (u i)) := by show _ = _; rw [putS_succ, hi', Int.toNat_natCast]
        have HUI := hid (HT1.out.cu i (by omega))
        clear hi'
        go_wp2_with go_in
        have HMA : Hid (MSt w (wr.setCell ⟨g1, i, none⟩ (.int .i64 k)) n g1 g2 g3 b (ct k) (colS ow (k + 1)) (putS ow u k) (vS v k)) := by show MSt _ _ _ _ _ _ _ _ _ _ _; rw [HU1.out]; exact HM.out.put1 hb1 hn12 hn13 hl1 hin _
        obtain ⟨wA, hwA⟩ : ∃ wA, wA = wr.setCell ⟨g1, i, none⟩ (.int .i64 k) := ⟨_, rfl⟩
        rw [← hwA] at HMA ⊢
        have HTA := hid (HT.out.below HMA.out.bel)
        obtain ⟨af, cf, hvc, _, hsq⟩ := HSQ.out
        obtain ⟨fg, fgi, fci, haf, hfg, hfc, hfgi, hfr⟩ := hsq i hin
        have hbA : Below wb.heap.size wb wA := HB.out.trans (HMA.out.bel.mono HB.out.size)
        have q0 : wA.cell? ⟨p, 1, none⟩ = some (.slice (some ⟨fg, 0, none⟩) n cf) := by rw [HTA.out.c1, hvc, haf]
        have q1 : wA.cell? ⟨fg, i, none⟩ = _ := (hbA.cell (by exact hfg)).trans hfc
        have q2 : wA.cell? ⟨fgi, k, none⟩ = _ := (hbA.cell (by exact hfgi)).trans (hfr k hlt)
        have q3 : fg < wA.heap.size := Nat.lt_of_lt_of_le hfg hbA.size
        have q4 : fgi < wA.heap.size := Nat.lt_of_lt_of_le hfgi hbA.size
        have q5 := HTA.out.lt
        obtain ⟨d, hd⟩ : ∃ d, d = C i k := ⟨_, rfl⟩
        rw [← hd] at q2 hcb HCI
        obtain ⟨hbA1, a0, a1, a2, a3, a4, a5, af2⟩ := HMA.out.cells
        obtain ⟨cc, hcc⟩ : ∃ cc, cc = ct k := ⟨_, rfl⟩
        rw [← hcc] at a1 hck HMA HCI
        have wz1 : IntKind.i64.wrap (cc + d) = cc + d := i64_fits _ (by omega)
        have HCX : Hid (ct (k + 1) = cc + d) := HCI
        clear hsq hfr hvc haf hbA hd hwA HM HT1 t0 o0 r1 rf hg1 m0 m1 m2 m3 m4 m5 mf hbw hpw hcc HCI
        go_wp2_with go_in
        go_region
        have HMB : Hid (MSt w (wA.setCell ⟨b, 1, none⟩ (.int .i64 (cc + d))).drew n g1 g2 g3 b (cc + d) (colS ow (k + 1)) (putS ow u k) (vS v k)) := (HMA.out.putC hb1 hb2 hb3 hlb _).drew
        obtain ⟨wB, hwB⟩ : ∃ wB, wB = (wA.setCell ⟨b, 1, none⟩ (.int .i64 (cc + d))).drew := ⟨_, rfl⟩
        rw [← hwB] at HMB ⊢
        have HTB := hid (HT.out.below HMB.out.bel)
        have b1 := HTB.out.cu i (by omega)
        have b2 := HTB.out.cv k (by omega)
        have b3 := HTB.out.lt
        obtain ⟨hbB1, e0, e1, e2, e3, e4, e5, ef2⟩ := HMB.out.cells
        have b4 := HMB.out.r2.cell hin
        have b5 := HMB.out.r2.frozen i
        have b6 := HMB.out.r2.lt
        clear q0 q1 q2 q3 q4 q5 a0 a1 a2 a3 a4 a5 af2 hbA1 hwB HMA HTA
        go_wp2_with go_in
        go_region
        have HMC : Hid (MSt w (wB.setCell ⟨g2, i, none⟩ (.int .i64 (u i))).drew n g1 g2 g3 b (cc + d) (colS ow (k + 1)) (putS ow u (k + 1)) (vS v k)) := by show MSt _ _ _ _ _ _ _ _ _ _ _; rw [HU2.out]; exact (HMB.out.put2 hb2 hn12 hn23 hl2 hin _).drew
        obtain ⟨wC, hwC⟩ : ∃ wC, wC = (wB.setCell ⟨g2, i, none⟩ (.int .i64 (u i))).drew := ⟨_, rfl⟩
        rw [← hwC] at HMC ⊢
        have HTC := hid (HT.out.below HMC.out.bel)
        have x2 := HTC.out.cv k (by omega)
        have x3 := HTC.out.lt
        obtain ⟨hbC1, y0, y1, y2, y3, y4, y5, yf2⟩ := HMC.out.cells
        have x4 := HMC.out.r3.cell hlt
        have x5 := HMC.out.r3.frozen k
        have x6 := HMC.out.r3.lt
        clear b1 b2 b3 b4 b5 b6 hbB1 e0 e1 e2 e3 e4 e5 ef2 hwC HMB HTB
        go_wp2_with go_in
        go_region
        have HMD : Hid (MSt w (wC.setCell ⟨g3, k, none⟩ (.int .i64 (v k))).drew n g1 g2 g3 b (cc + d) (colS ow (k + 1)) (putS ow u (k + 1)) (vS v (k + 1))) := by show MSt _ _ _ _ _ _ _ _ _ _ _; rw [← vS_succ]; exact (HMC.out.put3 hb3 hn13 hn23 hl3 hlt _).drew
        go_wp2
        go_roundw
        case rel => exact ⟨k + 1, by omega, by go_num, by rw [HCX.out]; omega, by rw [HCX.out]; exact HMD⟩
        case measure => simp [intOf]; omega
      · have hke : k = n := by omega
        have HMN : Hid (MSt w wr n g1 g2 g3 b (ct n) (colS ow n) (putS ow u n) (vS v n)) := by have hM := HM.out; rw [hke] at hM; exact hM
        obtain ⟨ctn, hctn⟩ : ∃ ctn, ctn = ct n := ⟨_, rfl⟩
        have HCE : Hid (sumL (fun c => C (ow c).toNat c) (List.range n) = ctn) := by show _ = _; rw [hctn, HCN.out]
        rw [hke] at m1
        rw [← hctn] at m1 HMN
        have hrl : w.heap.size < wr.heap.size := (Array.getElem?_eq_some_iff.1 HMN.out.rz).1
        obtain ⟨z0, z1, z2, z3, z4, z5, zf⟩ : wr.cell? ⟨w.heap.size, 0, none⟩ = some (.bool false) ∧ wr.cell? ⟨w.heap.size, 1, none⟩ = some (.int .i64 0) ∧ wr.cell? ⟨w.heap.size, 2, none⟩ = some (.slice none 0 0) ∧ wr.cell? ⟨w.heap.size, 3, none⟩ = some (.slice none 0 0) ∧ wr.cell? ⟨w.heap.size, 4, none⟩ = some (.slice none 0 0) ∧ wr.cell? ⟨w.heap.size, 5, none⟩ = some (.slice none 0 0) ∧ ∀ o, wr.frozen? ⟨w.heap.size, o, none⟩ = false := by
          refine ⟨?_, ?_, ?_, ?_, ?_, ?_, fun o => frozen_of_row wr _ o _ _ HMN.out.rz⟩ <;> (rw [cell_of_row _ _ _ _ _ _ HMN.out.rz]; rfl)
        clear hke hctn HM hck
        go_wp2_with go_in
        refine bodyPost_ret (v := .agg #[.bool true, .int .i64 ctn, .slice (some ⟨g1, 0, none⟩) n n, .slice (some ⟨g2, 0, none⟩) n n, .slice (some ⟨g3, 0, none⟩) n n, .slice none 0 0]) (by simp [results, Tryz.results181, go_sem, z0, z1, z2, z3, z4, z5]) rfl ?_
        have hne1 : g1 ≠ w.heap.size := by omega
        have hne2 : g2 ≠ w.heap.size := by omega
        have hne3 : g3 ≠ w.heap.size := by omega
        refine ⟨g1, g2, g3, by rw [HCE.out], by omega, by omega, by omega, hn12, hn13, hn23, ?_, ?_, ?_, ?_⟩
        · exact (((((HMN.out.r1.aside hne1 _).aside hne1 _).aside hne1 _).aside hne1 _).aside hne1 _).aside hne1 _
        · exact (((((HMN.out.r2.aside hne2 _).aside hne2 _).aside hne2 _).aside hne2 _).aside hne2 _).aside hne2 _
        · exact ((((((HMN.out.r3.aside hne3 _).aside hne3 _).aside hne3 _).aside hne3 _).aside hne3 _).aside hne3 _).congr (fun i hi => by unfold vS; rw [if_pos hi])
        · exact (((((HMN.out.bel.setCell (by exact Nat.le_refl _) _).setCell (by exact Nat.le_refl _) _).setCell (by exact Nat.le_refl _) _).setCell (by exact Nat.le_refl _) _).setCell (by exact Nat.le_refl _) _).setCell (by exact Nat.le_refl _) _
end Go.Proofs.YtebinaopncclgabGreatDoor
namespace Go.Proofs.YtebinaopncclgabGreatDoor
open Go.RowKit Go.IntWalk

/- ten marks, in a block of their own -/
def BoolAt (w : World) (g : Nat) (S : Nat → Bool) : Prop := ∃ cs, w.heap[g]? = some (.cells cs 242 (0, 0)) ∧ ∀ i, i < 10 → cs[i]? = some (.bool (S i))
theorem BoolAt.lt {w : World} {g : Nat} {S : Nat → Bool} (h : BoolAt w g S) : g < w.heap.size := by obtain ⟨cs, hc, _⟩ := h; exact (Array.getElem?_eq_some_iff.1 hc).1
theorem BoolAt.cell {w : World} {g i : Nat} {S : Nat → Bool} (h : BoolAt w g S) (hi : i < 10) : w.cell? ⟨g, i, none⟩ = some (.bool (S i)) := by
  obtain ⟨cs, hc, hf⟩ := h
  rw [cell_of_row _ _ _ _ _ _ hc]; exact hf i hi
theorem BoolAt.frozen {w : World} {g : Nat} {S : Nat → Bool} (h : BoolAt w g S) (k : Nat) : w.frozen? ⟨g, k, none⟩ = false := by obtain ⟨cs, hc, _⟩ := h; exact frozen_of_row w g k _ _ hc
theorem BoolAt.block {w w' : World} {g : Nat} {S : Nat → Bool} (h : BoolAt w g S) (hb : w'.heap[g]? = w.heap[g]?) : BoolAt w' g S := by
  obtain ⟨cs, hc, h2⟩ := h; exact ⟨cs, hb.trans hc, h2⟩
theorem BoolAt.put {w : World} {g k : Nat} {S : Nat → Bool} (h : BoolAt w g S) (hk : k < 10) (x : Bool) : BoolAt (w.setCell ⟨g, k, none⟩ (.bool x)) g (up1 S k x) := by
  have h0 := h.cell hk
  obtain ⟨cs, hc, hf⟩ := id h
  have hb := heap_setCell_same w g k cs 242 (.bool x) hc
  refine ⟨_, hb, fun i hi => ?_⟩
  have h1 := net_cells hc h0 (.bool x) (h.cell hi)
  rw [cell_of_row _ _ _ _ _ _ hb] at h1
  rw [h1]
  unfold up1
  by_cases e : i = k
  · rw [if_pos e, if_pos e]
  · rw [if_neg e, if_neg e]
theorem bools_new (w : World) : BoolAt (w.alloc (.cells #[.bool false, .bool false, .bool false, .bool false, .bool false, .bool false, .bool false, .bool false, .bool false, .bool false] 242)) w.heap.size (fun _ => false) := by
  refine ⟨_, heap_alloc_new w _, fun i hi => ?_⟩
  match i, hi with
  | 0, _ => rfl
  | 1, _ => rfl
  | 2, _ => rfl
  | 3, _ => rfl
  | 4, _ => rfl
  | 5, _ => rfl
  | 6, _ => rfl
  | 7, _ => rfl
  | 8, _ => rfl
  | 9, _ => rfl

theorem bools_set (w : World) (r : Nat) (hr : r < 10) : BoolAt (w.alloc (.cells ((([.bool false, .bool false, .bool false, .bool false, .bool false, .bool false, .bool false, .bool false, .bool false, .bool false] : List Value)).set r (.bool true)).toArray 242)) w.heap.size (up1 (fun _ => false) r true) := by
  refine ⟨_, heap_alloc_new w _, fun i hi => ?_⟩
  have h0 : ∀ i, i < 10 → ([.bool false, .bool false, .bool false, .bool false, .bool false, .bool false, .bool false, .bool false, .bool false, .bool false] : List Value)[i]? = some (.bool false) := fun i hi => by
    match i, hi with
    | 0, _ => rfl
    | 1, _ => rfl
    | 2, _ => rfl
    | 3, _ => rfl
    | 4, _ => rfl
    | 5, _ => rfl
    | 6, _ => rfl
    | 7, _ => rfl
    | 8, _ => rfl
    | 9, _ => rfl
  rw [List.getElem?_toArray, List.getElem?_set]
  unfold up1
  by_cases e : r = i
  · rw [if_pos e, if_pos e.symm, if_pos (by simp; omega)]
  · rw [if_neg e, if_neg (fun h => e h.symm)]; exact h0 i hi

set_option maxRecDepth 100000 in
set_option maxHeartbeats 4000000 in
theorem shortRows_any (p q n root : Nat) (vc : Value) (u v ow far fr : Nat → Int) (dn : Nat → Bool) (w : World) (hn : n ≤ 10) (hr : root < n) (ho : ∀ c, c < n → dn c = true → ∃ i : Nat, ow c = i ∧ i < n) (ht : TabAt w p n vc u v ow) (hh : HuntAt w q root far fr dn) :
    Calls Tryz.prog 178 #[.pointer (some ⟨p, 0, none⟩), .pointer (some ⟨q, 0, none⟩)] w fun e w' => ∃ x, e = .returned x ∧ w'.ownsRow w.heap.size 3 1 x (((List.range n).filter (shS ow dn root n)).length) (ints (((List.range n).filter (shS ow dn root n)).map fun (i : Nat) => (i : Int))) ∧ Below w.heap.size w w' := by
  obtain ⟨i0, hi, hz0, hz1, hz2⟩ := info_parts Tryz.infoInt
  have HT := hid ht
  have HH := hid hh
  have HO := hid ho
  have h0 := hh.c0
  have hpw := ht.lt
  have hqw := hh.lt
  have ir : (0 : Int) ≤ (root : Int) := by omega
  have jr : (root : Int) < 10 := by omega
  have HB0 := hid (bools_new w)
  have z0 := (bools_new w).cell (i := root) (by omega)
  have z1 := (bools_new w).frozen root
  clear ht hh ho
  go_enter Tryz.func178, Tryz.ntmps178
  go_wp2_with go_in
  have HS1 : Hid (BoolAt (w.alloc (.cells ((([.bool false, .bool false, .bool false, .bool false, .bool false, .bool false, .bool false, .bool false, .bool false, .bool false] : List Value)).set root (.bool true)).toArray 242)) w.heap.size (shS ow dn root 0)) := bools_set w root (by omega)
  have HBL : Hid (Below w.heap.size w (w.alloc (.cells ((([.bool false, .bool false, .bool false, .bool false, .bool false, .bool false, .bool false, .bool false, .bool false, .bool false] : List Value)).set root (.bool true)).toArray 242))) := below1 w _
  obtain ⟨w1, hw1⟩ : ∃ w1, w1 = (w.alloc (.cells ((([.bool false, .bool false, .bool false, .bool false, .bool false, .bool false, .bool false, .bool false, .bool false, .bool false] : List Value)).set root (.bool true)).toArray 242)) := ⟨_, rfl⟩
  rw [← hw1] at HS1 HBL ⊢
  obtain ⟨SS, hSS⟩ : ∃ SS, SS = shS ow dn root := ⟨_, rfl⟩
  rw [← hSS] at HS1
  have HSS : Hid (∀ k, SS (k + 1) = if dn k = true then up1 (SS k) (ow k).toNat true else SS k) := fun k => by rw [hSS]; rfl
  have HSE := hid hSS
  clear hw1 z0 z1 HB0 h0 hSS
  go_loopw [6] (fun i wr => ∃ k : Nat, k ≤ n ∧ i = .int .i64 k ∧ Hid (BoolAt wr w.heap.size (SS k)) ∧ Hid (Below w.heap.size w wr)) (fun i _ => n - (intOf i).toNat)
  case atStart => exact ⟨0, Nat.zero_le _, rfl, HS1, HBL⟩
  case round =>
    clear HS1 HBL hpw hqw
    obtain ⟨k, hk, rfl, HS, HB⟩ := hrel
    have HT1 := hid (HT.out.below HB.out)
    have HH1 := hid (HH.out.below HB.out)
    have t0 := HT1.out.c0
    have hpw := HT1.out.lt
    have hqw := HH1.out.lt
    have hsw := HS.out.lt
    by_cases hlt : k < n
    · have d0 := HH1.out.cd k (by omega)
      have o0 := HT1.out.co k (by omega)
      have ik : (0 : Int) ≤ (k : Int) := by omega
      have jk : (k : Int) < 10 := by omega
      cases hdk : dn k
      · rw [hdk] at d0
        have HX : Hid (SS (k + 1) = SS k) := by show _ = _; rw [HSS.out, if_neg (by rw [hdk]; simp)]
        go_wp2_with go_in
        go_roundw
        case rel => exact ⟨k + 1, by omega, by go_num, by rw [HX.out]; first | exact HS | exact HS.out.block rfl, by first | exact HB | exact HB.out.drew⟩
        case measure => simp [intOf]; omega
      · rw [hdk] at d0
        obtain ⟨i, hi', hin⟩ := HO.out k hlt hdk
        have HX : Hid (SS (k + 1) = up1 (SS k) i true) := by show _ = _; rw [HSS.out, if_pos hdk, hi']; simp
        rw [hi'] at o0
        have s0 := HS.out.cell (i := i) (by omega)
        have s1 := HS.out.frozen i
        have ii : (0 : Int) ≤ (i : Int) := by omega
        have ji : (i : Int) < 10 := by omega
        clear hi'
        go_wp2_with go_in
        first | go_region | skip
        go_wp2
        go_roundw
        case rel => exact ⟨k + 1, by omega, by go_num, by rw [HX.out]; first | exact HS.out.put (by omega) true | exact (HS.out.put (by omega) true).block rfl, by first | exact HB.out.setCell (by exact Nat.le_refl _) _ | exact (HB.out.setCell (by exact Nat.le_refl _) _).drew⟩
        case measure => simp [intOf]; omega
    · have hke : k = n := by omega
      have HSN : Hid (BoolAt wr w.heap.size (SS n)) := by show BoolAt _ _ _; rw [← hke]; exact HS.out
      obtain ⟨F, hF⟩ : ∃ F : Nat → List Int, F = fun m => ((List.range m).filter (SS n)).map fun (i : Nat) => (i : Int) := ⟨_, rfl⟩
      have HF0 : Hid (F 0 = []) := by show _ = _; rw [hF]; rfl
      have HF1 : Hid (∀ m, SS n m = true → F (m + 1) = F m ++ [(m : Int)]) := fun m h => by rw [hF]; simp [List.range_succ, h]
      have HF2 : Hid (∀ m, SS n m = false → F (m + 1) = F m) := fun m h => by rw [hF]; simp [List.range_succ, h]
      have HFL : Hid (∀ m, (F m).length ≤ m) := fun m => by rw [hF]; have := List.length_filter_le (SS n) (List.range m); simp at this ⊢; exact this
      have HFE : Hid (ints (((List.range n).filter (shS ow dn root n)).map fun (i : Nat) => (i : Int)) = ints (F n) ∧ ((List.range n).filter (shS ow dn root n)).length = (F n).length) := by
        show _ ∧ _
        rw [hF, HSE.out]; simp
      obtain ⟨wa, hwa⟩ : ∃ wa, wa = wr := ⟨_, rfl⟩
      rw [← hwa] at HSN HB
      have hwaz := HB.out.size
      clear hF HS HT1 HH1 hlt hk
      go_wp2_with go_in
      rw [← hwa]
      clear hwa t0 hpw hqw hsw hke
      go_loopw [7, 8] (fun lv i wr => ∃ m : Nat, m ≤ n ∧ i = .int .i64 m ∧ Hid (wr.ownsRow wa.heap.size 3 1 lv (F m).length (ints (F m))) ∧ Hid (Below wa.heap.size wa wr)) (fun _ i _ => n - (intOf i).toNat)
      case atStart => exact ⟨0, Nat.zero_le _, rfl, by rw [HF0.out]; exact World.ownsRow_nil _ _ _ _, Below.refl _ _⟩
      case round =>
        have HBA := HB
        clear HB
        obtain ⟨m, hm, rfl, HL, HB⟩ := hrel
        have hbz := HB.out.size
        have hba : Below w.heap.size w wr := HBA.out.trans (HB.out.mono hwaz)
        have HT1 := hid (HT.out.below hba)
        have HS1 : Hid (BoolAt wr w.heap.size (SS n)) := HSN.out.block (HB.out.block _ HSN.out.lt)
        have t0 := HT1.out.c0
        have hpw := HT1.out.lt
        have hsw := HS1.out.lt
        have HBX := hid hba
        clear hba
        obtain ⟨al, cl, hlv, _, _⟩ := own_val HL.out
        subst hlv
        by_cases hlt : m < n
        · have s0 := HS1.out.cell (i := m) (by omega)
          have im : (0 : Int) ≤ (m : Int) := by omega
          have jm : (m : Int) < 10 := by omega
          have hfl := HFL.out m
          cases hsm : SS n m
          · rw [hsm] at s0
            have HX := hid (HF2.out m hsm)
            go_wp2_with go_in
            go_roundw
            case rel => exact ⟨m + 1, by omega, by go_num, by rw [HX.out]; first | exact HL | exact own_heap HL.out rfl, by first | exact HB | exact HB.out.drew⟩
            case measure => simp [intOf]; omega
          · rw [hsm] at s0
            have HX := hid (HF1.out m hsm)
            obtain ⟨fl, hflx⟩ : ∃ fl, fl = (F m).length := ⟨_, rfl⟩
            rw [← hflx] at HL hfl ⊢
            have HFX := hid hflx
            clear hflx
            go_wp2_with (first
              | (at_builtin; refine wpList_append_own _ rfl _ _ 40 rfl wa.heap.size 3 i0 (.int .i64 0) 1 8 Tryz.underlying40 hi hz0 hz1 hz2 rfl (by decide) _ _ _ rfl (HL.out.alloc _) ⟨wr.heap.size, 0, none⟩ 1 1 [.int .i64 m] rfl rfl ?c1 ?c2 ?c3 ?c4 ?c5 ?_)
              | go_in)
            case c1 => exact cell_one_new _ _ _
            case c2 => intro x hx; simp at hx; subst hx; rfl
            case c3 => unfold maxLen; omega
            case c4 => omega
            case c5 => simp; omega
            intro v' w2 hown' hgrow _
            have hgg : (wr.alloc (.cells #[.int .i64 m] 3)).grownBy w2 (Value.slice al fl cl).ownBlock := hgrow
            have HO2 : Hid (w2.ownsRow wa.heap.size 3 1 v' (F (m + 1)).length (ints (F (m + 1)))) := by
              show World.ownsRow _ _ _ _ _ _ _
              rw [HX.out, ints_append, List.length_append, ← HFX.out]; exact hown'
            have HB2 : Hid (Below wa.heap.size wa w2) := (HB.out.trans ((below1 wr _).mono hbz)).grown hgg (by simp; omega) (fun x hx => (HL.out.lt x hx).1)
            clear hown' hgrow hgg HL HB s0 t0
            go_wp2
            go_roundw
            case rel => exact ⟨m + 1, by omega, by go_num, HO2, HB2⟩
            case measure => simp [intOf]; omega
        · have hme : m = n := by omega
          have HLN : Hid (wr.ownsRow wa.heap.size 3 1 (.slice al (F m).length cl) (F n).length (ints (F n))) := by show World.ownsRow _ _ _ _ _ _ _; rw [← hme]; exact HL.out
          clear hme HL
          go_wp2_with go_in
          go_ret
          refine ⟨_, rfl, ?_, HBX.out⟩
          rw [HFE.out.1, HFE.out.2]
          exact own_base HLN.out hwaz
end Go.Proofs.YtebinaopncclgabGreatDoor
namespace Go.Proofs.YtebinaopncclgabGreatDoor
open Go.RowKit Go.IntWalk

theorem tab_new (w : World) (n : Nat) (vc : Value) : TabAt (w.alloc (.cells #[.int .i64 n, vc, .int .i64 0, .int .i64 0, .int .i64 0, .int .i64 0, .int .i64 0, .int .i64 0, .int .i64 0, .int .i64 0, .int .i64 0, .int .i64 0, .int .i64 0, .int .i64 0, .int .i64 0, .int .i64 0, .int .i64 0, .int .i64 0, .int .i64 0, .int .i64 0, .int .i64 0, .int .i64 0, .int .i64 0, .int .i64 0, .int .i64 0, .int .i64 0, .int .i64 0, .int .i64 0, .int .i64 0, .int .i64 0, .int .i64 0, .int .i64 0] 240)) w.heap.size n vc (fun _ => 0) (fun _ => 0) (fun _ => 0) := by
  have hb := heap_alloc_new w (.cells #[.int .i64 n, vc, .int .i64 0, .int .i64 0, .int .i64 0, .int .i64 0, .int .i64 0, .int .i64 0, .int .i64 0, .int .i64 0, .int .i64 0, .int .i64 0, .int .i64 0, .int .i64 0, .int .i64 0, .int .i64 0, .int .i64 0, .int .i64 0, .int .i64 0, .int .i64 0, .int .i64 0, .int .i64 0, .int .i64 0, .int .i64 0, .int .i64 0, .int .i64 0, .int .i64 0, .int .i64 0, .int .i64 0, .int .i64 0, .int .i64 0, .int .i64 0] 240)
  refine ⟨⟨_, hb⟩, ?_, ?_, fun i hi => ?_, fun i hi => ?_, fun i hi => ?_⟩
  · rw [cell_of_row _ _ _ _ _ _ hb]; rfl
  · rw [cell_of_row _ _ _ _ _ _ hb]; rfl
  · rw [cell_of_row _ _ _ _ _ _ hb]
    match i, hi with
    | 0, _ => rfl
    | 1, _ => rfl
    | 2, _ => rfl
    | 3, _ => rfl
    | 4, _ => rfl
    | 5, _ => rfl
    | 6, _ => rfl
    | 7, _ => rfl
    | 8, _ => rfl
    | 9, _ => rfl
  · rw [cell_of_row _ _ _ _ _ _ hb]
    match i, hi with
    | 0, _ => rfl
    | 1, _ => rfl
    | 2, _ => rfl
    | 3, _ => rfl
    | 4, _ => rfl
    | 5, _ => rfl
    | 6, _ => rfl
    | 7, _ => rfl
    | 8, _ => rfl
    | 9, _ => rfl
  · rw [cell_of_row _ _ _ _ _ _ hb]
    match i, hi with
    | 0, _ => rfl
    | 1, _ => rfl
    | 2, _ => rfl
    | 3, _ => rfl
    | 4, _ => rfl
    | 5, _ => rfl
    | 6, _ => rfl
    | 7, _ => rfl
    | 8, _ => rfl
    | 9, _ => rfl
theorem hunt_new (w : World) (root : Nat) : HuntAt (w.alloc (.cells #[.int .i64 root, .int .i64 0, .int .i64 0, .int .i64 0, .int .i64 0, .int .i64 0, .int .i64 0, .int .i64 0, .int .i64 0, .int .i64 0, .int .i64 0, .int .i64 0, .int .i64 0, .int .i64 0, .int .i64 0, .int .i64 0, .int .i64 0, .int .i64 0, .int .i64 0, .int .i64 0, .int .i64 0, .bool false, .bool false, .bool false, .bool false, .bool false, .bool false, .bool false, .bool false, .bool false, .bool false] 244)) w.heap.size root (fun _ => 0) (fun _ => 0) (fun _ => false) := by
  have hb := heap_alloc_new w (.cells #[.int .i64 root, .int .i64 0, .int .i64 0, .int .i64 0, .int .i64 0, .int .i64 0, .int .i64 0, .int .i64 0, .int .i64 0, .int .i64 0, .int .i64 0, .int .i64 0, .int .i64 0, .int .i64 0, .int .i64 0, .int .i64 0, .int .i64 0, .int .i64 0, .int .i64 0, .int .i64 0, .int .i64 0, .bool false, .bool false, .bool false, .bool false, .bool false, .bool false, .bool false, .bool false, .bool false, .bool false] 244)
  refine ⟨⟨_, hb⟩, ?_, fun i hi => ?_, fun i hi => ?_, fun i hi => ?_⟩
  · rw [cell_of_row _ _ _ _ _ _ hb]; rfl
  · rw [cell_of_row _ _ _ _ _ _ hb]
    match i, hi with
    | 0, _ => rfl
    | 1, _ => rfl
    | 2, _ => rfl
    | 3, _ => rfl
    | 4, _ => rfl
    | 5, _ => rfl
    | 6, _ => rfl
    | 7, _ => rfl
    | 8, _ => rfl
    | 9, _ => rfl
  · rw [cell_of_row _ _ _ _ _ _ hb]
    match i, hi with
    | 0, _ => rfl
    | 1, _ => rfl
    | 2, _ => rfl
    | 3, _ => rfl
    | 4, _ => rfl
    | 5, _ => rfl
    | 6, _ => rfl
    | 7, _ => rfl
    | 8, _ => rfl
    | 9, _ => rfl
  · rw [cell_of_row _ _ _ _ _ _ hb]
    match i, hi with
    | 0, _ => rfl
    | 1, _ => rfl
    | 2, _ => rfl
    | 3, _ => rfl
    | 4, _ => rfl
    | 5, _ => rfl
    | 6, _ => rfl
    | 7, _ => rfl
    | 8, _ => rfl
    | 9, _ => rfl

set_option maxRecDepth 100000 in
set_option maxHeartbeats 4000000 in
theorem aopen_any (n : Nat) (C : Nat → Nat → Int) (vc : Value) (w : World) (hn : n ≤ 10) (hsq : SqR w vc n C) :
    Calls Tryz.prog 176 #[vc] w fun e w' => ∃ p, e = .returned (.pointer (some ⟨p, 0, none⟩)) ∧ w.heap.size ≤ p ∧ TabAt w' p n vc (fun _ => 0) (fun _ => 0) (fillS (-1) (fun _ => 0) n) ∧ Below w.heap.size w w' := by
  obtain ⟨af, cf, rfl, _, _⟩ := hsq
  have HT0 := hid (tab_new w n (.slice af n cf))
  go_enter Tryz.func176, Tryz.ntmps176
  go_wp2_with fail
  go_loopw [4] (fun i wr => ∃ (k : Nat) (ow : Nat → Int), k ≤ n ∧ i = .int .i64 k ∧ Hid (ow = fillS (-1) (fun _ => 0) k) ∧ Hid (TabAt wr w.heap.size n (.slice af n cf) (fun _ => 0) (fun _ => 0) ow) ∧ Hid (Below w.heap.size w wr)) (fun i _ => n - (intOf i).toNat)
  case atStart => exact ⟨0, fun _ => 0, Nat.zero_le _, rfl, (fill_zero _ _).symm, HT0, below1 w _⟩
  case round =>
    clear HT0
    obtain ⟨k, ow, hk, rfl, HO, HT, HB⟩ := hrel
    have t0 := HT.out.c0
    have hpw := HT.out.lt
    by_cases hlt : k < n
    · have o0 := HT.out.co k (by omega)
      have fz := HT.out.frozen (22 + k)
      have ik : (0 : Int) ≤ (k : Int) := by omega
      have jk : (k : Int) < 10 := by omega
      have HX : Hid (up1 ow k (-1) = fillS (-1) (fun _ => 0) (k + 1)) := by show _ = _; rw [HO.out]; exact fill_succ _ _ _
      go_wp2_with go_in
      go_roundw
      case rel => exact ⟨k + 1, up1 ow k (-1), by omega, by go_num, HX, HT.out.putO (by omega) _, HB.out.setCell (by exact Nat.le_refl _) _⟩
      case measure => simp [intOf]; omega
    · have hkn : k = n := by omega
      have HX : Hid (ow = fillS (-1) (fun _ => 0) n) := by show _ = _; rw [HO.out, hkn]
      clear hkn
      go_wp2_with go_in
      go_ret
      exact ⟨_, rfl, Nat.le_refl _, by rw [← HX.out]; exact HT.out, HB.out⟩
end Go.Proofs.YtebinaopncclgabGreatDoor
namespace Go.Proofs.YtebinaopncclgabGreatDoor
open Go.RowKit Go.IntWalk

set_option maxRecDepth 100000 in
set_option maxHeartbeats 4000000 in
theorem cellFault_ok (n : Nat) (C : Nat → Nat → Int) (vc : Value) (w : World) (hn : n ≤ 10) (hsq : SqR w vc n C) (hc : CellOk n C) :
    Calls Tryz.prog 175 #[vc] w fun e w' => e = .returned (.int .i64 0) ∧ Below w.heap.size w w' := by
  obtain ⟨af, cf, rfl, _, hq⟩ := hsq
  have HQ := hid hq
  have HC := hid hc
  clear hq hc
  go_enter Tryz.func175, Tryz.ntmps175
  go_wp2_with fail
  go_loopw [3] (fun i wr => ∃ k : Nat, k ≤ n ∧ i = .int .i64 k ∧ Hid (Below w.heap.size w wr)) (fun i _ => n - (intOf i).toNat)
  case atStart => exact ⟨0, Nat.zero_le _, rfl, Below.refl _ _⟩
  case round =>
    obtain ⟨k, hk, rfl, HB⟩ := hrel
    by_cases hlt : k < n
    · obtain ⟨fg, fgi, fci, rfl, hfg, hfc, hfgi, hfr⟩ := HQ.out k hlt
      have x0 : wr.cell? ⟨fg, k, none⟩ = _ := (HB.out.cell (by exact hfg)).trans hfc
      have x1 : fg < wr.heap.size := Nat.lt_of_lt_of_le hfg HB.out.size
      have ik : (0 : Int) ≤ (k : Int) := by omega
      have jk : (k : Int) < (n : Int) := by omega
      clear hfr
      go_wp2_with go_in
      go_roundw
      case rel => exact ⟨k + 1, by omega, by go_num, by first | exact HB | exact HB.out.drew⟩
      case measure => simp [intOf]; omega
    · obtain ⟨wa, hwa⟩ : ∃ wa, wa = wr := ⟨_, rfl⟩
      rw [← hwa] at HB
      go_wp2_with go_in
      rw [← hwa]
      clear hwa
      go_loopw [4] (fun i wr => ∃ k : Nat, k ≤ n ∧ i = .int .i64 k ∧ Hid (Below w.heap.size w wr)) (fun i _ => n - (intOf i).toNat)
      case atStart => exact ⟨0, Nat.zero_le _, rfl, HB⟩
      case round =>
        clear HB
        obtain ⟨k2, hk2, rfl, HB⟩ := hrel
        by_cases hlt2 : k2 < n
        · obtain ⟨fg, fgi, fci, rfl, hfg, hfc, hfgi, hfr⟩ := HQ.out k2 hlt2
          have HFR := hid hfr
          obtain ⟨wo, hwo⟩ : ∃ wo, wo = wr := ⟨_, rfl⟩
          rw [← hwo] at HB
          clear hfr
          go_wp2_with fail
          rw [← hwo]
          clear hwo
          go_loopw [5] (fun i wr => ∃ k : Nat, k ≤ n ∧ i = .int .i64 k ∧ Hid (Below w.heap.size w wr)) (fun i _ => n - (intOf i).toNat)
          case atStart => exact ⟨0, Nat.zero_le _, rfl, HB⟩
          case round =>
            clear HB
            obtain ⟨j, hj, rfl, HB⟩ := hrel
            have x0 : wr.cell? ⟨fg, k2, none⟩ = _ := (HB.out.cell (by exact hfg)).trans hfc
            have x1 : fg < wr.heap.size := Nat.lt_of_lt_of_le hfg HB.out.size
            have x2 : fgi < wr.heap.size := Nat.lt_of_lt_of_le hfgi HB.out.size
            have ik : (0 : Int) ≤ (k2 : Int) := by omega
            have jk : (k2 : Int) < (n : Int) := by omega
            by_cases hlj : j < n
            · have x3 : wr.cell? ⟨fgi, j, none⟩ = _ := (HB.out.cell (by exact hfgi)).trans (HFR.out j hlj)
              have hcb := HC.out k2 j hlt2 hlj
              have ij : (0 : Int) ≤ (j : Int) := by omega
              have jj : (j : Int) < (n : Int) := by omega
              go_wp2_with go_in
              go_roundw
              case rel => exact ⟨j + 1, by omega, by go_num, by first | exact HB | exact HB.out.drew | exact below_drewN' HB.out _⟩
              case measure => simp [intOf]; omega
            · go_wp2_with go_in
              go_roundw
              case rel => exact ⟨k2 + 1, by omega, by go_num, by first | exact HB | exact HB.out.drew⟩
              case measure => simp [intOf]; omega
        · go_wp2_with go_in
          go_ret
          exact ⟨rfl, HB.out⟩

theorem tinv_zero {n : Nat} {C : Nat → Nat → Int} {ow : Nat → Int} (hc : CellOk n C) (ho : ∀ c, c < n → ow c = -1) : TInv n C (fun _ => 0) (fun _ => 0) ow 0 :=
  ⟨fun i j hi hj h => by have := hc i j hi hj; omega, fun j hj => .inl (ho j hj), fun j k hj _ _ h => absurd (ho j hj) h, fun _ _ _ => rfl, fun _ _ => Int.le_refl _, fun _ _ => Int.le_refl _, fun _ _ _ => rfl, fun i h => absurd h (by omega), fun _ _ => by simp, fun _ _ => by simp⟩

theorem own_aside {w : World} {B q o n size : Nat} {e : TypeId} {v y : Value} {xs : List Value} (h : w.ownsRow B e size v n xs) (hq : q < B) : (w.setCell ⟨q, o, none⟩ y).ownsRow B e size v n xs := by
  refine ⟨h.1, ?_⟩
  rcases h.2 with h1 | ⟨g, cap, cur, h1, h2, h3, h4⟩
  · exact .inl h1
  · exact .inr ⟨g, cap, cur, h1, h2, (Below.heap_setCell _ _ _ _ (by show g ≠ q; omega)).trans h3, h4⟩
/- six cells of a box -/
theorem six_at {w : World} {b : Nat} {x0 x1 x2 x3 x4 x5 : Value} {t : TypeId} (h : w.heap[b]? = some (.cells #[x0, x1, x2, x3, x4, x5] t (0, 0))) : b < w.heap.size ∧ w.cell? ⟨b, 0, none⟩ = some x0 ∧ w.cell? ⟨b, 1, none⟩ = some x1 ∧ w.cell? ⟨b, 2, none⟩ = some x2 ∧ w.cell? ⟨b, 3, none⟩ = some x3 ∧ w.cell? ⟨b, 4, none⟩ = some x4 ∧ w.cell? ⟨b, 5, none⟩ = some x5 ∧ ∀ o, w.frozen? ⟨b, o, none⟩ = false := by
  refine ⟨(Array.getElem?_eq_some_iff.1 h).1, ?_, ?_, ?_, ?_, ?_, ?_, fun o => frozen_of_row w b o _ _ h⟩ <;> (rw [cell_of_row _ _ _ _ _ _ h]; rfl)
/- .. and that it is what the cells alone tell -/
def BestLeftD (w : World) (n : Nat) (C : Nat → Nat → Int) (e : Ending) (w' : World) : Prop :=
  Below w.heap.size w w' ∧ ((∃ g1 g2 g3 col u v cost, e = .returned (.tuple #[.agg #[.bool true, .int .i64 cost, .slice (some ⟨g1, 0, none⟩) n n, .slice (some ⟨g2, 0, none⟩) n n, .slice (some ⟨g3, 0, none⟩) n n, .slice none 0 0], .int .i64 0]) ∧ (w.heap.size ≤ g1 ∧ w.heap.size ≤ g2 ∧ w.heap.size ≤ g3 ∧ g1 ≠ g2 ∧ g1 ≠ g3 ∧ g2 ≠ g3 ∧ RowAt w' g1 n col ∧ RowAt w' g2 n u ∧ RowAt w' g3 n v ∧ Tight n C col u v cost) ∧ bestF n C = ⟨true, cost, col, u, v, fun _ => false⟩) ∨
    ∃ x S T, e = .returned (.tuple #[.agg #[.bool false, .int .i64 0, .slice none 0 0, .slice none 0 0, .slice none 0 0, x], .int .i64 0]) ∧ (w'.ownsRow w.heap.size 3 1 x ((List.range n).filter S).length (ints (((List.range n).filter S).map fun (i : Nat) => (i : Int))) ∧ Short n C S T) ∧ bestF n C = ⟨false, 0, fun _ => 0, fun _ => 0, fun _ => 0, S⟩)

set_option maxRecDepth 100000 in
set_option maxHeartbeats 4000000 in
theorem best_det (n : Nat) (C : Nat → Nat → Int) (vc : Value) (w : World) (hn : n ≤ 10) (hsq : SqR w vc n C) (hc : CellOk n C) : Calls Tryz.prog 112 #[vc] w (BestLeftD w n C) := by
  have HSQ := hid hsq
  have HC := hid hc
  have HCF : Hid (∀ W, Below w.heap.size w W → _) := fun W hW => cellFault_ok n C vc W hn (hsq.below hW) hc
  have HOP : Hid (∀ W, Below w.heap.size w W → _) := fun W hW => aopen_any n C vc W hn (hsq.below hW)
  obtain ⟨af, cf, hvc, _, _⟩ := id hsq
  have HVC := hid hvc
  subst hvc
  clear hsq hc
  go_enter Tryz.func112, Tryz.ntmps112
  go_wp2_with fail
  refine (HCF.out _ (below1 w _)).mono ?_
  rintro e1 w1 ⟨rfl, hb1⟩
  have HB1 : Hid (Below w.heap.size w w1) := (below1 w _).trans (hb1.mono (by simp))
  have hz1 : w1.heap[w.heap.size]? = some (.cells #[.bool false, .int .i64 0, .slice none 0 0, .slice none 0 0, .slice none 0 0, .slice none 0 0] 125 (0, 0)) := (hb1.block _ (by simp)).trans (heap_alloc_new w _)
  have HZ1 := hid hz1
  have hzl : w.heap.size < w1.heap.size := (Array.getElem?_eq_some_iff.1 hz1).1
  clear hb1 hz1 HCF
  go_wp2_with fail
  refine (HOP.out w1 HB1.out).mono ?_
  rintro e2 w2 ⟨p, rfl, hpw, ht0, hb2⟩
  obtain ⟨ow0, ho0⟩ : ∃ ow0, ow0 = fillS (-1) (fun _ => (0 : Int)) n := ⟨_, rfl⟩
  rw [← ho0] at ht0
  have HT0 := hid ht0
  have HB2 := hid hb2
  have HI0 := hid (tinv_zero HC.out (ow := ow0) (fun c hc => by rw [ho0]; unfold fillS; rw [if_pos hc]))
  have HR0 : Hid (∀ x, BestR n C 0 (fun _ => 0) (fun _ => 0) ow0 x → bestStart n C x) := fun x h => by rw [ho0] at h; exact h
  have HSQ1 := hid (HSQ.out.below HB1.out)
  clear ht0 hb2 ho0 HOP
  go_wp2_with fail
  go_loopw [6] (fun i wr => ∃ (k : Nat) (u v ow : Nat → Int), k ≤ n ∧ i = .int .i64 k ∧ Hid (∀ x, BestR n C k u v ow x → bestStart n C x) ∧ Hid (TInv n C u v ow k) ∧ Hid (TabAt wr p n (.slice af n cf) u v ow) ∧ Hid (Below w1.heap.size w1 wr)) (fun i _ => n - (intOf i).toNat)
  case atStart => exact ⟨0, _, _, ow0, Nat.zero_le _, rfl, HR0, HI0, HT0, HB2⟩
  case round =>
    clear HI0 HT0 HB2 HR0
    obtain ⟨k, u, v, ow, hk, rfl, HR, HI, HT, HB⟩ := hrel
    have t0 := HT.out.c0
    have hpl := HT.out.lt
    by_cases hlt : k < n
    · have HH0 := hid (hunt_new wr k)
      obtain ⟨W, hW⟩ : ∃ W, W = wr.alloc (.cells #[.int .i64 k, .int .i64 0, .int .i64 0, .int .i64 0, .int .i64 0, .int .i64 0, .int .i64 0, .int .i64 0, .int .i64 0, .int .i64 0, .int .i64 0, .int .i64 0, .int .i64 0, .int .i64 0, .int .i64 0, .int .i64 0, .int .i64 0, .int .i64 0, .int .i64 0, .int .i64 0, .int .i64 0, .bool false, .bool false, .bool false, .bool false, .bool false, .bool false, .bool false, .bool false, .bool false, .bool false] 244) := ⟨_, rfl⟩
      have hbW : Below wr.heap.size wr W := by rw [hW]; exact below1 wr _
      rw [← hW] at HH0
      have HTW := hid (HT.out.below hbW)
      have HBW : Hid (Below w1.heap.size w1 W) := HB.out.trans (hbW.mono HB.out.size)
      have hqb : w1.heap.size ≤ wr.heap.size := HB.out.size
      have hpq : p ≠ wr.heap.size := by omega
      have HCR := hid (reach_any p wr.heap.size n k C (.slice af n cf) u v ow (fun _ => 0) (fun _ => 0) w1 W hn hlt hpq hqb HBW.out HSQ1.out HC.out HI.out HTW.out HH0.out)
      have HWQ := hid hW
      clear hbW hW
      go_wp2_with fail
      rw [← HWQ.out]
      refine HCR.out.mono ?_
      rintro e3 w3 ⟨far, fr, dn, ord, cnt, hh3, ht3, hb3, hcase⟩
      have HH3 := hid hh3
      have HT3 := hid ht3
      have HB3 := hid hb3
      clear hh3 ht3 hb3 HCR HTW HH0 HBW
      rcases hcase with ⟨rfl, ⟨hhi, hall⟩, hrch⟩ | ⟨c, rfl, hend, hrch⟩
      · have HSH := hid (hunt_short HI.out hlt hhi hall)
        have HBF := hid (bestF_of (HR.out _ (BestR.short hlt hrch)))
        clear hrch
        have HCS := hid (shortRows_any p wr.heap.size n k (.slice af n cf) u v ow far fr dn w3 hn hlt (fun c hc hd => by
          rcases HI.out.own c hc with h1 | ⟨i, h1, h2, _⟩
          · exact absurd h1 (hhi.sub c hc hd).2
          · exact ⟨i, h1, by omega⟩) HT3.out HH3.out)
        clear hhi hall
        go_wp2_with fail
        refine HCS.out.mono ?_
        rintro e4 w4 ⟨x, rfl, ho4, hb4⟩
        obtain ⟨ax, cx, hxv, _, _⟩ := own_val ho4
        have hb34 : Below w1.heap.size w1 w4 := HB3.out.trans (hb4.mono HB3.out.size)
        have HB4 : Hid (Below w.heap.size w w4) := HB1.out.trans (hb34.mono HB1.out.size)
        have hz4 := (hb34.block _ hzl).trans HZ1.out
        obtain ⟨zl, z0, z1, z2, z3, z4, z5, zf⟩ := six_at hz4
        have HO4 := hid ho4
        have hlt3 : w.heap.size < w3.heap.size := Nat.lt_of_lt_of_le hzl HB3.out.size
        subst hxv
        clear ho4 hb4 hb34 hz4 HCS HT3 HH3
        go_wp2_with fail
        refine bodyPost_ret (v := .tuple #[.agg #[.bool false, .int .i64 0, .slice none 0 0, .slice none 0 0, .slice none 0 0, .slice ax ((List.range n).filter (shS ow dn k n)).length cx], .int .i64 0]) (by simp [results, Tryz.results112, go_sem, z0, z1, z2, z3, z4, z5]) rfl ?_
        refine ⟨(((((HB4.out.setCell (by exact Nat.le_refl _) _).setCell (by exact Nat.le_refl _) _).setCell (by exact Nat.le_refl _) _).setCell (by exact Nat.le_refl _) _).setCell (by exact Nat.le_refl _) _).setCell (by exact Nat.le_refl _) _, .inr ⟨_, shS ow dn k n, dn, rfl, ⟨?_, HSH.out⟩, HBF.out⟩⟩
        exact own_base (own_aside (own_aside (own_aside (own_aside (own_aside (own_aside HO4.out hlt3) hlt3) hlt3) hlt3) hlt3) hlt3) (by omega)
      · have hcn := hend.lt
        have HRC := hid hrch
        clear hrch
        have hfpos : 0 ≤ far c ∧ far c ≤ 2000000 := by
          have h1 := hend.inv.known c hcn hend.dne
          rcases hend.inv.pos c hcn with h2 | h2
          · exact absurd h2 h1
          · exact ⟨h2, hend.small⟩
        have hfd : ∀ x, x < n → dn x = true → 0 ≤ far x ∧ far x ≤ far c := fun x hx hd => by
          have h1 := hend.inv.known x hx hd
          rcases hend.inv.pos x hx with h2 | h2
          · exact absurd h2 h1
          · exact ⟨h2, hend.last x hx hd⟩
        obtain ⟨hub, hvb⟩ := HI.out.ub hn (by omega)
        have HRZ := hid (rz_raised (far := far) (dn := dn) (D := far c) HI.out)
        have hown : ∀ x, x < n → ow x = -1 ∨ ∃ i : Nat, ow x = i ∧ i < n := fun x hx => by
          rcases HI.out.own x hx with h1 | ⟨i, h1, h2, _⟩
          · exact .inl h1
          · exact .inr ⟨i, h1, by omega⟩
        have HEND := hid hend
        have f0 := HH3.out.cf c (by omega)
        have HCW : Hid (∀ W2, Below w3.heap.size w3 W2 → Calls Tryz.prog 179 #[.pointer (some ⟨p, 0, none⟩), .pointer (some ⟨wr.heap.size, 0, none⟩), .int .i64 (far c)] W2 fun e w' => e = .returned (.tuple #[]) ∧ w'.cell? ⟨wr.heap.size, 1 + c, none⟩ = some (.int .i64 (far c)) ∧ Hid (HuntAt w' wr.heap.size k far fr dn) ∧ Hid (TabAt w' p n (.slice af n cf) (rzU ow far dn (far c) (up1 u k (u k + far c)) n) (rzV ow far dn (far c) v n) ow) ∧ Hid (Below w1.heap.size w1 w')) := by
          intro W2 h2
          refine (raise_any p wr.heap.size n k (.slice af n cf) u v ow far fr dn (far c) w1 W2 hn hlt hpq hpw (HB3.out.trans (h2.mono HB3.out.size)) hfpos hfd (fun m hm i hi => by have := rzU_bd HI.out hfpos hfd hlt hn m hm i hi; omega) (fun i hi => by have := hvb i hi; omega) (by have := hub k hlt; omega) hown (HT3.out.below h2) (HH3.out.below h2)).mono ?_
          rintro e4 w4 ⟨rfl, h4, t4, b4⟩
          exact ⟨rfl, h4.cf c (by omega), h4, t4, b4⟩
        obtain ⟨fc, hfc⟩ : ∃ fc, fc = far c := ⟨_, rfl⟩
        rw [← hfc] at f0 HCW
        have HFC := hid hfc
        have ic : (0 : Int) ≤ (c : Int) := by omega
        have jc : (c : Int) < 10 := by omega
        have c1 : ((c : Int) == (-1 : Int)) = false := by simp
        have hp3 := HT3.out.lt
        have hq3 := HH3.out.lt
        clear hend hfpos hfd hub hvb hown hfc t0 hpl
        go_wp2_with fail
        refine (HCW.out _ (by first | exact Below.refl _ _ | exact (Below.refl _ _).drew)).mono ?_
        rintro e4 w4 ⟨rfl, x0, HH4, HT4, HB4⟩
        clear x0 f0 HCW
        rw [HFC.out] at HT4
        have HCG := hid (give_any p wr.heap.size n k c cnt C (.slice af n cf) u v _ _ ow far fr dn ord w1 w4 hn hpq hpw HB4.out HEND.out HI.out HT4.out HH4.out)
        go_wp2_with fail
        refine HCG.out.mono ?_
        rintro e5 w5 ⟨rfl, Wp, j, ow', hgv, hdn, hgr, ht5, hb5⟩
        have HR5 : Hid (∀ x, BestR n C (k + 1) (rzU ow far dn (far c) (up1 u k (u k + far c)) n) (rzV ow far dn (far c) v n) ow' x → bestStart n C x) := fun x h => HR.out x (BestR.more hlt HRC.out hgr h)
        clear hgr
        have HI5 := hid (hunt_done HI.out hlt HEND.out HRZ.out hgv hdn)
        have HT5 := hid ht5
        have HB5 := hid hb5
        clear hgv hdn ht5 hb5 HCG HH4 HT4 HB4
        go_wp2_with fail
        go_roundw
        case rel => exact ⟨k + 1, _, _, ow', by omega, by go_num, HR5, HI5, HT5, HB5⟩
        case measure => simp [intOf]; omega
    · have hke : k = n := by omega
      subst hke
      have hlt1 := last_tight hn HI.out
      have hbf := bestF_of (HR.out _ BestR.done)
      have hao := all_owned HI.out
      have HTI := hid hlt1
      have HCM := hid (match_any p k C (.slice af k cf) u v ow w1 wr hn hpw HB.out HSQ1.out HC.out (fun j hj => by obtain ⟨i, h1, h2, _⟩ := hao j hj; exact ⟨i, h1, h2⟩) (fun j hj => by
        obtain ⟨i, h1, h2, h3, _⟩ := hao j hj
        have := (HC.out i j h2 hj).1
        rw [h1]; simp; omega) HT.out)
      clear hlt1 hao
      go_wp2_with fail
      refine HCM.out.mono ?_
      rintro e4 w4 ⟨g1, g2, g3, rfl, l1, l2, l3, n12, n13, n23, r1, r2, r3, hb4⟩
      have hb34 : Below w1.heap.size w1 w4 := HB.out.trans (hb4.mono HB.out.size)
      have HB4 : Hid (Below w.heap.size w w4) := HB1.out.trans (hb34.mono HB1.out.size)
      have hz4 := (hb34.block _ hzl).trans HZ1.out
      obtain ⟨zl, z0, z1, z2, z3, z4, z5, zf⟩ := six_at hz4
      have hsz := HB.out.size
      have HR1 := hid r1
      have HR2 := hid r2
      have HR3 := hid r3
      obtain ⟨cst, hcst⟩ : ∃ cst, cst = sumL (fun c => C (ow c).toNat c) (List.range k) := ⟨_, rfl⟩
      rw [← hcst] at HTI hbf ⊢
      have HBF := hid hbf
      clear hbf
      have hg1 : g1 ≠ w.heap.size := by omega
      have hg2 : g2 ≠ w.heap.size := by omega
      have hg3 : g3 ≠ w.heap.size := by omega
      clear hb4 hb34 hz4 HCM r1 r2 r3 hcst t0 hpl
      go_wp2_with fail
      refine bodyPost_ret (v := .tuple #[.agg #[.bool true, .int .i64 cst, .slice (some ⟨g1, 0, none⟩) k k, .slice (some ⟨g2, 0, none⟩) k k, .slice (some ⟨g3, 0, none⟩) k k, .slice none 0 0], .int .i64 0]) (by simp [results, Tryz.results112, go_sem, z0, z1, z2, z3, z4, z5]) rfl ?_
      refine ⟨(((((HB4.out.setCell (by exact Nat.le_refl _) _).setCell (by exact Nat.le_refl _) _).setCell (by exact Nat.le_refl _) _).setCell (by exact Nat.le_refl _) _).setCell (by exact Nat.le_refl _) _).setCell (by exact Nat.le_refl _) _, .inl ⟨g1, g2, g3, colS ow k, u, v, cst, rfl, ⟨by omega, by omega, by omega, n12, n13, n23, ?_, ?_, ?_, HTI.out.1⟩, HBF.out⟩⟩
      · exact (((((HR1.out.aside hg1 _).aside hg1 _).aside hg1 _).aside hg1 _).aside hg1 _).aside hg1 _
      · exact ((((((HR2.out.aside hg2 _).aside hg2 _).aside hg2 _).aside hg2 _).aside hg2 _).aside hg2 _).congr HTI.out.2
      · exact (((((HR3.out.aside hg3 _).aside hg3 _).aside hg3 _).aside hg3 _).aside hg3 _).aside hg3 _
end Go.Proofs.YtebinaopncclgabGreatDoor
namespace Go.Proofs.YtebinaopncclgabGreatDoor
open Go.RowKit Go.IntWalk

/- a tour in memory: how many stops, the site behind each, the first stops -/
structure TourAt (w : World) (t : Nat) (st : Int) (bh : Nat → Int) (vf : Value) : Prop where
  box : ∃ cs, w.heap[t]? = some (.cells cs 259 (0, 0))
  c0 : w.cell? ⟨t, 0, none⟩ = some (.int .i64 st)
  cb : ∀ s, s < 8 → w.cell? ⟨t, 1 + s, none⟩ = some (.int .i64 (bh s))
  c9 : w.cell? ⟨t, 9, none⟩ = some vf
theorem TourAt.lt {w : World} {t : Nat} {st : Int} {bh : Nat → Int} {vf : Value} (h : TourAt w t st bh vf) : t < w.heap.size := by obtain ⟨cs, hc⟩ := h.box; exact (Array.getElem?_eq_some_iff.1 hc).1
theorem TourAt.frozen {w : World} {t : Nat} {st : Int} {bh : Nat → Int} {vf : Value} (h : TourAt w t st bh vf) (k : Nat) : w.frozen? ⟨t, k, none⟩ = false := by obtain ⟨cs, hc⟩ := h.box; exact frozen_of_row w t k _ _ hc
theorem TourAt.block {w w' : World} {t : Nat} {st : Int} {bh : Nat → Int} {vf : Value} (h : TourAt w t st bh vf) (hb : w'.heap[t]? = w.heap[t]?) : TourAt w' t st bh vf := by
  have hc : ∀ o, w'.cell? ⟨t, o, none⟩ = w.cell? ⟨t, o, none⟩ := fun o => World.cell?_of_block (a := ⟨t, o, none⟩) hb
  obtain ⟨cs, hcs⟩ := h.box
  exact ⟨⟨cs, hb.trans hcs⟩, (hc _).trans h.c0, fun i hi => (hc _).trans (h.cb i hi), (hc _).trans h.c9⟩
theorem TourAt.below {w w' : World} {t : Nat} {st : Int} {bh : Nat → Int} {vf : Value} (h : TourAt w t st bh vf) (hb : Below w.heap.size w w') : TourAt w' t st bh vf := h.block (hb.block _ h.lt)
theorem TourAt.putS {w : World} {t : Nat} {st : Int} {bh : Nat → Int} {vf : Value} (h : TourAt w t st bh vf) (x : Int) : TourAt (w.setCell ⟨t, 0, none⟩ (.int .i64 x)) t x bh vf := by
  obtain ⟨⟨cs, hc⟩, h0, hb, h9⟩ := h
  refine ⟨⟨_, heap_setCell_same w t _ _ _ _ hc⟩, ?_, fun i hi => ?_, ?_⟩
  · rw [net_cells hc h0 _ h0, if_pos rfl]
  · rw [net_cells hc h0 _ (hb i hi), if_neg (by omega)]
  · rw [net_cells hc h0 _ h9, if_neg (by omega)]
theorem TourAt.putB {w : World} {t k : Nat} {st : Int} {bh : Nat → Int} {vf : Value} (h : TourAt w t st bh vf) (hk : k < 8) (x : Int) : TourAt (w.setCell ⟨t, 1 + k, none⟩ (.int .i64 x)) t st (up1 bh k x) vf := by
  obtain ⟨⟨cs, hc⟩, h0, hb, h9⟩ := h
  refine ⟨⟨_, heap_setCell_same w t _ _ _ _ hc⟩, ?_, fun i hi => ?_, ?_⟩
  · rw [net_cells hc (hb k hk) _ h0, if_neg (by omega)]
  · rw [net_cells hc (hb k hk) _ (hb i hi)]
    unfold up1
    by_cases e : i = k
    · rw [if_pos e, if_pos (by rw [e])]
    · rw [if_neg e, if_neg (by omega)]
  · rw [net_cells hc (hb k hk) _ h9, if_neg (by omega)]
theorem TourAt.putV {w : World} {t : Nat} {st : Int} {bh : Nat → Int} {vf : Value} (h : TourAt w t st bh vf) (x : Value) : TourAt (w.setCell ⟨t, 9, none⟩ x) t st bh x := by
  obtain ⟨⟨cs, hc⟩, h0, hb, h9⟩ := h
  refine ⟨⟨_, heap_setCell_same w t _ _ _ _ hc⟩, ?_, fun i hi => ?_, ?_⟩
  · rw [net_cells hc h9 _ h0, if_neg (by omega)]
  · rw [net_cells hc h9 _ (hb i hi), if_neg (by omega)]
  · rw [net_cells hc h9 _ h9, if_pos rfl]
theorem tour_new (w : World) : TourAt (w.alloc (.cells #[.int .i64 0, .int .i64 0, .int .i64 0, .int .i64 0, .int .i64 0, .int .i64 0, .int .i64 0, .int .i64 0, .int .i64 0, .slice none 0 0] 259)) w.heap.size 0 (fun _ => 0) (.slice none 0 0) := by
  have hb := heap_alloc_new w (.cells #[.int .i64 0, .int .i64 0, .int .i64 0, .int .i64 0, .int .i64 0, .int .i64 0, .int .i64 0, .int .i64 0, .int .i64 0, .slice none 0 0] 259)
  refine ⟨⟨_, hb⟩, ?_, fun i hi => ?_, ?_⟩
  · rw [cell_of_row _ _ _ _ _ _ hb]; rfl
  · rw [cell_of_row _ _ _ _ _ _ hb]
    match i, hi with
    | 0, _ => rfl
    | 1, _ => rfl
    | 2, _ => rfl
    | 3, _ => rfl
    | 4, _ => rfl
    | 5, _ => rfl
    | 6, _ => rfl
    | 7, _ => rfl
  · rw [cell_of_row _ _ _ _ _ _ hb]; rfl
def bhI (n : Nat) (bh : Nat → Nat) (s : Nat) : Int := if 1 ≤ s ∧ s ≤ n then (bh s : Int) else 0
theorem bhI_succ (n : Nat) (bh : Nat → Nat) : up1 (bhI n bh) (n + 1) (bh (n + 1) : Int) = bhI (n + 1) bh := by
  funext s
  unfold up1 bhI
  by_cases e : s = n + 1
  · rw [if_pos e, if_pos (by omega), e]
  · rw [if_neg e]
    by_cases h : 1 ≤ s ∧ s ≤ n
    · rw [if_pos h, if_pos (by omega)]
    · rw [if_neg h, if_neg (by omega)]
theorem bhI_zero (bh : Nat → Nat) : bhI 0 bh = fun _ => 0 := by funext s; unfold bhI; rw [if_neg (by omega)]
structure TourO (w : World) (t n : Nat) (bh : Nat → Nat) (fs : List Nat) : Prop where
  at_ : ∃ vf, TourAt w t n (bhI n bh) vf ∧ w.ownsRow (t + 1) 3 1 vf fs.length (ints (zL fs))
theorem TourO.below {w w' : World} {t n : Nat} {bh : Nat → Nat} {fs : List Nat} (h : TourO w t n bh fs) (hb : Below w.heap.size w w') : TourO w' t n bh fs := by
  obtain ⟨vf, h1, h2⟩ := h.at_
  exact ⟨vf, h1.below hb, own_below h2 hb⟩
theorem TourO.lt {w : World} {t n : Nat} {bh : Nat → Nat} {fs : List Nat} (h : TourO w t n bh fs) : t < w.heap.size := by obtain ⟨vf, h1, _⟩ := h.at_; exact h1.lt
theorem TourO.behind {w : World} {t n s : Nat} {bh : Nat → Nat} {fs : List Nat} (h : TourO w t n bh fs) (h1 : 1 ≤ s) (h2 : s ≤ n) (h7 : n ≤ 7) : w.cell? ⟨t, 1 + s, none⟩ = some (.int .i64 (bh s)) := by
  obtain ⟨vf, h3, _⟩ := h.at_
  rw [h3.cb s (by omega)]; unfold bhI; rw [if_pos ⟨h1, h2⟩]
theorem fs_succ (n m : Nat) (col : Nat → Int) : fsQ n (m + 1) col = fsQ n m col ++ (if lineN n (col (n + m)).toNat ≠ 0 then [lineN n (col (n + m)).toNat] else []) := by
  unfold fsQ
  rw [List.range_succ, List.map_append, List.filter_append]
  congr 1
  by_cases h : lineN n (col (n + m)).toNat ≠ 0
  · rw [if_pos h]; simp [h]
  · rw [if_neg h]; simp at h; simp [h]
theorem zL_snoc' (c : List Nat) (x : Nat) : zL (c ++ [x]) = zL c ++ [(x : Int)] := by simp [zL]
theorem fs_len (n m : Nat) (col : Nat → Int) : (fsQ n m col).length ≤ m := by
  unfold fsQ
  have := List.length_filter_le (fun s => decide (s ≠ 0)) ((List.range m).map fun k => lineN n (col (n + k)).toNat)
  simpa using this

set_option maxRecDepth 100000 in
set_option maxHeartbeats 4000000 in
theorem tourOf_any (n v g : Nat) (col : Nat → Int) (vs : Value) (w : World) (hn : n ≤ 7) (hv3 : v ≤ 3) (hs : ListR w vs ((List.range (n + v)).map fun i => (lineN n i : Int))) (hg : RowAt w g (n + v) col) (hc : ∀ i, i < n + v → ∃ k : Nat, col i = k ∧ k < n + v) :
    Calls Tryz.prog 141 #[vs, .slice (some ⟨g, 0, none⟩) (n + v) (n + v)] w fun e w' => ∃ t, e = .returned (.pointer (some ⟨t, 0, none⟩)) ∧ w.heap.size ≤ t ∧ TourO w' t n (bhQ n col) (fsQ n v col) ∧ Below w.heap.size w w' := by
  obtain ⟨i0, hi, hz0, hz1, hz2⟩ := info_parts Tryz.infoInt
  obtain ⟨ao, ca, rfl, hr⟩ := hs
  have HR : Hid (∀ j, j < n + v → ∃ q, ao = some ⟨q, 0, none⟩ ∧ q < w.heap.size ∧ w.cell? ⟨q, j, none⟩ = some (.int .i64 (lineN n j : Int))) := fun j hj => by
    obtain ⟨q, h1, h2, h3⟩ := hr j (by simpa using hj)
    refine ⟨q, h1, h2, ?_⟩
    rw [h3, List.getD_eq_getElem?_getD, List.getElem?_map, List.getElem?_range hj]; rfl
  have HG := hid hg
  have HC := hid hc
  have hgl := hg.lt
  have HT0 := hid (tour_new w)
  have hlen : ((List.range (n + v)).map fun i => (lineN n i : Int)).length = n + v := by simp
  rw [hlen]
  clear hr hg hc hlen
  go_enter Tryz.func141, Tryz.ntmps141
  go_wp2_with fail
  go_loopw [6] (fun i wr => ∃ (k : Nat) (vf : Value), k ≤ n + v ∧ i = .int .i64 k ∧ Hid (TourAt wr w.heap.size (min k n : Nat) (bhI (min k n) (bhQ n col)) vf) ∧ Hid (wr.ownsRow (w.heap.size + 1) 3 1 vf (fsQ n (k - n) col).length (ints (zL (fsQ n (k - n) col)))) ∧ Hid (Below w.heap.size w wr)) (fun i _ => n + v - (intOf i).toNat)
  case atStart =>
    refine ⟨0, .slice none 0 0, Nat.zero_le _, rfl, ?_, ?_, below1 w _⟩
    · show TourAt _ _ _ _ _
      rw [Nat.zero_min, bhI_zero]; exact HT0.out
    · show World.ownsRow _ _ _ _ _ _ _
      rw [Nat.zero_sub]; exact World.ownsRow_nil _ _ _ _
  case round =>
    clear HT0
    obtain ⟨k, vf, hk, rfl, HT, HO, HB⟩ := hrel
    have htl := HT.out.lt
    have hbs := HB.out.size
    by_cases hlt : k < n + v
    · obtain ⟨q, hao, hql, x0⟩ := HR.out k hlt
      subst hao
      obtain ⟨j, hj, hjn⟩ := HC.out k hlt
      obtain ⟨q', e', _, x2⟩ := HR.out j hjn
      cases e'
      have x1 := HG.out.cell hlt
      rw [hj] at x1
      have y0 : wr.cell? ⟨q, k, none⟩ = _ := (HB.out.cell (by exact hql)).trans x0
      have y1 : wr.cell? ⟨g, k, none⟩ = _ := (HB.out.cell (by exact hgl)).trans x1
      have y2 : wr.cell? ⟨q, j, none⟩ = _ := (HB.out.cell (by exact hql)).trans x2
      have lq : q < wr.heap.size := Nat.lt_of_lt_of_le hql hbs
      have lg : g < wr.heap.size := Nat.lt_of_lt_of_le hgl hbs
      have ik : (0 : Int) ≤ (k : Int) := by omega
      have jk : (k : Int) < ((n + v : Nat) : Int) := by omega
      have ij : (0 : Int) ≤ (j : Int) := by omega
      have jj : (j : Int) < ((n + v : Nat) : Int) := by omega
      have hto : lineN n j < n + 1 := lineN_lt n j
      have c0 := HT.out.c0
      have c9 := HT.out.c9
      have fz0 := HT.out.frozen 0
      have fz9 := HT.out.frozen 9
      clear x0 x1 x2
      by_cases hkn : k < n
      · have ef : lineN n k = k + 1 := by unfold lineN; rw [if_pos hkn]
        rw [ef] at y0
        have cb := HT.out.cb (k + 1) (by omega)
        have fzb := HT.out.frozen (1 + (k + 1))
        have HX : Hid (TourAt ((wr.setCell ⟨w.heap.size, 0, none⟩ (.int .i64 ((k : Int) + 1))).setCell ⟨w.heap.size, 1 + (k + 1), none⟩ (.int .i64 (lineN n j : Int))) w.heap.size (min (k + 1) n : Nat) (bhI (min (k + 1) n) (bhQ n col)) vf) := by
          have h1 := (HT.out.putS ((k : Int) + 1)).putB (k := k + 1) (by omega) (lineN n j : Int)
          show TourAt _ _ _ _ _
          rw [show min (k + 1) n = k + 1 by omega, ← bhI_succ]
          have e2 : bhQ n col (k + 1) = lineN n j := by unfold bhQ; rw [Nat.add_sub_cancel, hj]; rfl
          rw [e2]
          rw [show min k n = k by omega] at h1
          exact h1
        have e0 : (((k + 1 : Nat) : Int) != 0) = true := by simp; omega
        have wk : IntKind.i64.wrap ((min k n : Nat) + 1 : Int) = (k : Int) + 1 := by rw [i64_fits _ (by omega)]; omega
        have i1 : (0 : Int) ≤ ((k + 1 : Nat) : Int) := by omega
        have j1 : ((k + 1 : Nat) : Int) < 8 := by omega
        go_wp2_with go_in
        go_roundw
        case rel =>
          refine ⟨k + 1, vf, by omega, by go_num, HX, ?_, (HB.out.setCell (by exact Nat.le_refl _) _).setCell (by exact Nat.le_refl _) _⟩
          show World.ownsRow _ _ _ _ _ _ _
          rw [show k + 1 - n = k - n by omega]
          exact own_aside (own_aside HO.out (by omega)) (by omega)
        case measure => simp [intOf]; omega
      · have ef : lineN n k = 0 := by unfold lineN; rw [if_neg hkn]
        rw [ef] at y0
        have e0 : (((0 : Nat) : Int) != 0) = false := by simp
        have HFS : Hid (fsQ n (k + 1 - n) col = fsQ n (k - n) col ++ (if lineN n j ≠ 0 then [lineN n j] else [])) := by
          show _ = _
          rw [show k + 1 - n = (k - n) + 1 by omega, fs_succ, show n + (k - n) = k by omega, hj]; rfl
        have HMN : Hid (min (k + 1) n = min k n) := by show _ = _; omega
        have hfl := fs_len n (k - n) col
        by_cases hto0 : lineN n j = 0
        · rw [if_neg (by omega), List.append_nil] at HFS
          have e1 : ((lineN n j : Int) != 0) = false := by simp [hto0]
          clear hto0
          go_wp2_with go_in
          go_roundw
          case rel => exact ⟨k + 1, vf, by omega, by go_num, by show TourAt _ _ _ _ _; rw [HMN.out]; exact HT.out, by show World.ownsRow _ _ _ _ _ _ _; rw [HFS.out]; exact HO.out, HB⟩
          case measure => simp [intOf]; omega
        · rw [if_pos hto0] at HFS
          have e1 : ((lineN n j : Int) != 0) = true := by simpa using hto0
          clear hto0
          obtain ⟨af, cf, rfl, _, _⟩ := own_val HO.out
          generalize lineN n j = to at *
          go_wp2_with (first
            | (at_builtin; refine wpList_append_own _ rfl _ _ 40 rfl (w.heap.size + 1) 3 i0 (.int .i64 0) 1 8 Tryz.underlying40 hi hz0 hz1 hz2 rfl (by decide) _ _ _ rfl (HO.out.alloc _) ⟨wr.heap.size, 0, none⟩ 1 1 [.int .i64 (to : Nat)] rfl rfl ?c1 ?c2 ?c3 ?c4 ?c5 ?_)
            | go_in)
          case c1 => exact cell_one_new _ _ _
          case c2 => intro u hu; simp at hu; subst hu; rfl
          case c3 => unfold maxLen; omega
          case c4 => omega
          case c5 => simp; omega
          intro v2 w2 hown2 hgr2 _
          have hb2 : w2.heap[w.heap.size]? = wr.heap[w.heap.size]? := by
            rw [hgr2.block _ (by simp; omega) (fun h => by have := (HO.out.lt _ h.symm).1; omega)]
            exact Below.heap_alloc _ _ _ htl
          have HT2 := hid (HT.out.block hb2)
          have HO2 := hid hown2
          obtain ⟨a2, c2, rfl, _, _⟩ := own_val hown2
          have HB2 : Hid (Below w.heap.size w w2) := (HB.out.alloc (by omega) _).grown hgr2 (by simp; omega) (fun x hx => by have := (HO.out.lt x hx).1; omega)
          have d9 := HT2.out.c9
          have dl := HT2.out.lt
          have df := HT2.out.frozen 9
          clear hown2 hgr2 hb2
          go_wp2_with go_in
          go_roundw
          case rel =>
            refine ⟨k + 1, .slice a2 ((fsQ n (k - n) col).length + 1) c2, by omega, by go_num, ?_, ?_, HB2.out.setCell (by exact Nat.le_refl _) _⟩
            · show TourAt _ _ _ _ _
              rw [HMN.out]; exact HT2.out.putV _
            · show World.ownsRow _ _ _ _ _ _ _
              rw [HFS.out, List.length_append, zL_snoc', ints_append]
              exact own_aside HO2.out (by omega)
          case measure => simp [intOf]; omega
    · obtain rfl : k = n + v := by omega
      have HX : Hid (TourO wr w.heap.size n (bhQ n col) (fsQ n v col)) := by
        have h1 := HT.out
        have h2 := HO.out
        rw [show min (n + v) n = n by omega] at h1
        rw [show n + v - n = v by omega] at h2
        exact ⟨vf, h1, h2⟩
      go_wp2_with fail
      go_ret
      exact ⟨_, rfl, Nat.le_refl _, HX.out, HB.out⟩
end Go.Proofs.YtebinaopncclgabGreatDoor
