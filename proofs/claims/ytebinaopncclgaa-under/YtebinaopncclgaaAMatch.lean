/- Walks: what the last table tells. -/
import Derived.Test.YtebinaopncclgaaAGive
namespace Go.Proofs.Ytebinaopncclgaa
open Go.RowKit Go.IntWalk

/- a row of numbers, in a block of its own -/
def RowAt (w : World) (g n : Nat) (f : Nat → Int) : Prop := ∃ cs, w.heap[g]? = some (.cells cs 3 (0, 0)) ∧ cs.size = n ∧ ∀ i, i < n → cs[i]? = some (.int .i64 (f i))
theorem RowAt.lt {w : World} {g n : Nat} {f : Nat → Int} (h : RowAt w g n f) : g < w.heap.size := by obtain ⟨cs, hc, _⟩ := h; exact (Array.getElem?_eq_some_iff.1 hc).1
theorem RowAt.cell {w : World} {g n i : Nat} {f : Nat → Int} (h : RowAt w g n f) (hi : i < n) : w.cell? ⟨g, i, none⟩ = some (.int .i64 (f i)) := by
  obtain ⟨cs, hc, _, hf⟩ := h
  rw [cell_of_row _ _ _ _ _ _ hc]; exact hf i hi
theorem RowAt.frozen {w : World} {g n : Nat} {f : Nat → Int} (h : RowAt w g n f) (k : Nat) : w.frozen? ⟨g, k, none⟩ = false := by obtain ⟨cs, hc, _⟩ := h; exact frozen_of_row w g k _ _ hc
theorem RowAt.block {w w' : World} {g n : Nat} {f : Nat → Int} (h : RowAt w g n f) (hb : w'.heap[g]? = w.heap[g]?) : RowAt w' g n f := by
  obtain ⟨cs, hc, h2⟩ := h; exact ⟨cs, hb.trans hc, h2⟩
theorem RowAt.aside {w : World} {g q n o : Nat} {f : Nat → Int} (h : RowAt w g n f) (hne : g ≠ q) (x : Value) : RowAt (w.setCell ⟨q, o, none⟩ x) g n f := h.block (Below.heap_setCell _ _ _ _ (by exact hne))
theorem RowAt.put {w : World} {g n k : Nat} {f : Nat → Int} (h : RowAt w g n f) (hk : k < n) (x : Int) : RowAt (w.setCell ⟨g, k, none⟩ (.int .i64 x)) g n (up1 f k x) := by
  have h0 := h.cell hk
  obtain ⟨cs, hc, hs, hf⟩ := id h
  have hb := heap_setCell_same w g k cs 3 (.int .i64 x) hc
  refine ⟨_, hb, by simpa using hs, fun i hi => ?_⟩
  have h1 := net_cells hc h0 (.int .i64 x) (h.cell hi)
  rw [cell_of_row _ _ _ _ _ _ hb] at h1
  rw [h1]
  unfold up1
  by_cases e : i = k
  · rw [if_pos e, if_pos e]
  · rw [if_neg e, if_neg e]

theorem five_at (w : World) (o0 o1 o2 o3 o4 : Obj) : Below w.heap.size w (((((w.alloc o0).alloc o1).alloc o2).alloc o3).alloc o4).drew ∧ (((((w.alloc o0).alloc o1).alloc o2).alloc o3).alloc o4).drew.heap[w.heap.size]? = some o0 ∧ (((((w.alloc o0).alloc o1).alloc o2).alloc o3).alloc o4).drew.heap[w.heap.size + 1]? = some o1 ∧ (((((w.alloc o0).alloc o1).alloc o2).alloc o3).alloc o4).drew.heap[w.heap.size + 1 + 1]? = some o2 ∧ (((((w.alloc o0).alloc o1).alloc o2).alloc o3).alloc o4).drew.heap[w.heap.size + 1 + 1 + 1]? = some o3 ∧ (((((w.alloc o0).alloc o1).alloc o2).alloc o3).alloc o4).drew.heap[w.heap.size + 1 + 1 + 1 + 1]? = some o4 := by
  have hb : Below w.heap.size w (((((w.alloc o0).alloc o1).alloc o2).alloc o3).alloc o4) := ((((below1 w o0).alloc (by simp) o1).alloc (by simp; omega) o2).alloc (by simp; omega) o3).alloc (by simp; omega) o4
  refine ⟨hb.drew, ?_, ?_, ?_, ?_, ?_⟩
  · show (((((w.heap.push o0).push o1).push o2).push o3).push o4)[w.heap.size]? = _
    rw [Array.getElem?_push, if_neg (by simp only [Array.size_push]; omega), Array.getElem?_push, if_neg (by simp only [Array.size_push]; omega), Array.getElem?_push, if_neg (by simp only [Array.size_push]; omega), Array.getElem?_push, if_neg (by simp only [Array.size_push]; omega), Array.getElem?_push, if_pos rfl]
  · show (((((w.heap.push o0).push o1).push o2).push o3).push o4)[w.heap.size + 1]? = _
    rw [Array.getElem?_push, if_neg (by simp only [Array.size_push]; omega), Array.getElem?_push, if_neg (by simp only [Array.size_push]; omega), Array.getElem?_push, if_neg (by simp only [Array.size_push]; omega), Array.getElem?_push, if_pos (by simp only [Array.size_push])]
  · show (((((w.heap.push o0).push o1).push o2).push o3).push o4)[w.heap.size + 1 + 1]? = _
    rw [Array.getElem?_push, if_neg (by simp only [Array.size_push]; omega), Array.getElem?_push, if_neg (by simp only [Array.size_push]; omega), Array.getElem?_push, if_pos (by simp only [Array.size_push])]
  · show (((((w.heap.push o0).push o1).push o2).push o3).push o4)[w.heap.size + 1 + 1 + 1]? = _
    rw [Array.getElem?_push, if_neg (by simp only [Array.size_push]; omega), Array.getElem?_push, if_pos (by simp only [Array.size_push])]
  · show (((((w.heap.push o0).push o1).push o2).push o3).push o4)[w.heap.size + 1 + 1 + 1 + 1]? = _
    rw [Array.getElem?_push, if_pos (by simp only [Array.size_push])]
theorem colS_succ (ow : Nat → Int) (k : Nat) : colS ow (k + 1) = up1 (colS ow k) (ow k).toNat (k : Int) := rfl
theorem putS_succ (ow x : Nat → Int) (k : Nat) : putS ow x (k + 1) = up1 (putS ow x k) (ow k).toNat (x (ow k).toNat) := rfl
def vS (v : Nat → Int) (k : Nat) : Nat → Int := fun j => if j < k then v j else 0
theorem vS_succ (v : Nat → Int) (k : Nat) : up1 (vS v k) k (v k) = vS v (k + 1) := by
  funext j
  unfold up1 vS
  by_cases e : j = k
  · rw [if_pos e, if_pos (by omega), e]
  · rw [if_neg e]
    by_cases h : j < k
    · rw [if_pos h, if_pos (by omega)]
    · rw [if_neg h, if_neg (by omega)]
theorem RowAt.congr {w : World} {g n : Nat} {f f' : Nat → Int} (h : RowAt w g n f) (e : ∀ i, i < n → f i = f' i) : RowAt w g n f' := by
  obtain ⟨cs, h1, h2, h3⟩ := h
  exact ⟨cs, h1, h2, fun i hi => by rw [h3 i hi, e i hi]⟩
def und54 : List Value := [undef, undef, undef, undef, undef, undef, undef, undef, undef, undef, undef, undef, undef, undef, undef, undef, undef, undef, undef, undef, undef, undef, undef, undef, undef, undef, undef, undef, undef, undef, undef, undef, undef, undef, undef, undef, undef, undef, undef, undef, undef, undef, undef, undef, undef, undef, undef, undef, undef, undef, undef, undef, undef, undef]
/- what the three lists and the answer are, made in whatever order -/
structure Made (w w' : World) (mz : Array Value) (n g1 g2 g3 b : Nat) : Prop where
  bel : Below w.heap.size w w'
  l1 : w.heap.size < g1
  l2 : w.heap.size < g2
  l3 : w.heap.size < g3
  lb : w.heap.size < b
  n12 : g1 ≠ g2
  n13 : g1 ≠ g3
  n23 : g2 ≠ g3
  res : w'.heap[w.heap.size]? = some (.cells #[.bool false, .int .i64 0, .slice none 0 0, .slice none 0 0, .slice none 0 0, .slice none 0 0] 49 (0, 0))
  h1 : w'.heap[g1]? = some (.cells mz 3 (0, 0))
  h2 : w'.heap[g2]? = some (.cells mz 3 (0, 0))
  h3 : w'.heap[g3]? = some (.cells mz 3 (0, 0))
  hb : w'.heap[b]? = some (.cells #[.bool true, .int .i64 0, .slice (some ⟨g1, 0, none⟩) n n, .slice (some ⟨g2, 0, none⟩) n n, .slice (some ⟨g3, 0, none⟩) n n, .slice none 0 0] 49 (0, 0))

def mPost (w : World) (mz : Array Value) (p n : Nat) : Act → World → Prop := fun a w' => ∃ g1 g2 g3 b, a = ⟨List.toArray ([.pointer (some ⟨p, 0, none⟩), undef, .pointer (some ⟨w.heap.size, 0, none⟩), .pointer (some ⟨b, 0, none⟩), undef, undef, .pointer (some ⟨p, 0, none⟩), .pointer (some ⟨p, 0, none⟩), .pointer (some ⟨p, 0, none⟩), .int .i64 n, .slice (some ⟨g1, 0, none⟩) n n, .pointer (some ⟨p, 0, none⟩), .pointer (some ⟨p, 0, none⟩), .pointer (some ⟨p, 0, none⟩), .int .i64 n, .slice (some ⟨g2, 0, none⟩) n n, .pointer (some ⟨p, 0, none⟩), .pointer (some ⟨p, 0, none⟩), .pointer (some ⟨p, 0, none⟩), .int .i64 n, .slice (some ⟨g3, 0, none⟩) n n, .agg #[.bool true, .int .i64 0, .slice (some ⟨g1, 0, none⟩) n n, .slice (some ⟨g2, 0, none⟩) n n, .slice (some ⟨g3, 0, none⟩) n n, .slice none 0 0]] ++ und54), []⟩ ∧ Made w w' mz n g1 g2 g3 b
theorem mPost_mk {w w' : World} {mz : Array Value} {p n g1 g2 g3 b : Nat} {a : Act} (ha : a = ⟨List.toArray ([.pointer (some ⟨p, 0, none⟩), undef, .pointer (some ⟨w.heap.size, 0, none⟩), .pointer (some ⟨b, 0, none⟩), undef, undef, .pointer (some ⟨p, 0, none⟩), .pointer (some ⟨p, 0, none⟩), .pointer (some ⟨p, 0, none⟩), .int .i64 n, .slice (some ⟨g1, 0, none⟩) n n, .pointer (some ⟨p, 0, none⟩), .pointer (some ⟨p, 0, none⟩), .pointer (some ⟨p, 0, none⟩), .int .i64 n, .slice (some ⟨g2, 0, none⟩) n n, .pointer (some ⟨p, 0, none⟩), .pointer (some ⟨p, 0, none⟩), .pointer (some ⟨p, 0, none⟩), .int .i64 n, .slice (some ⟨g3, 0, none⟩) n n, .agg #[.bool true, .int .i64 0, .slice (some ⟨g1, 0, none⟩) n n, .slice (some ⟨g2, 0, none⟩) n n, .slice (some ⟨g3, 0, none⟩) n n, .slice none 0 0]] ++ und54), []⟩) (h : Made w w' mz n g1 g2 g3 b) : mPost w mz p n a w' := ⟨g1, g2, g3, b, ha, h⟩
theorem wp_via {P : Program} {c : Code} {Q : Exit → Act → World → Prop} {a : Act} {w : World} (R : Act → World → Prop) (hi : ∀ a w, R a w → Q .normal a w) (hr : (∀ a w, R a w → Q .normal a w) → Code.wp P c Q a w) : Code.wp P c Q a w := hr hi
/- the answer while it is written -/
structure MSt (w wr : World) (n g1 g2 g3 b : Nat) (c : Int) (f1 f2 f3 : Nat → Int) : Prop where
  mb : wr.heap[b]? = some (.cells #[.bool true, .int .i64 (c), .slice (some ⟨g1, 0, none⟩) n n, .slice (some ⟨g2, 0, none⟩) n n, .slice (some ⟨g3, 0, none⟩) n n, .slice none 0 0] 49 (0, 0))
  r1 : RowAt wr g1 n f1
  r2 : RowAt wr g2 n f2
  r3 : RowAt wr g3 n f3
  rz : wr.heap[w.heap.size]? = some (.cells #[.bool false, .int .i64 0, .slice none 0 0, .slice none 0 0, .slice none 0 0, .slice none 0 0] 49 (0, 0))
  bel : Below w.heap.size w wr
theorem MSt.drew {w wr : World} {n g1 g2 g3 b : Nat} {c : Int} {f1 f2 f3 : Nat → Int} (h : MSt w wr n g1 g2 g3 b c f1 f2 f3) : MSt w wr.drew n g1 g2 g3 b c f1 f2 f3 := ⟨h.mb, h.r1.block rfl, h.r2.block rfl, h.r3.block rfl, h.rz, h.bel.drew⟩
theorem MSt.put1 {w wr : World} {n g1 g2 g3 b k : Nat} {c : Int} {f1 f2 f3 : Nat → Int} (h : MSt w wr n g1 g2 g3 b c f1 f2 f3) (hb : b ≠ g1) (h2 : g1 ≠ g2) (h3 : g1 ≠ g3) (hl : w.heap.size < g1) (hk : k < n) (x : Int) : MSt w (wr.setCell ⟨g1, k, none⟩ (.int .i64 x)) n g1 g2 g3 b c (up1 f1 k x) f2 f3 :=
  ⟨(Below.heap_setCell _ _ _ _ (by exact hb)).trans h.mb, h.r1.put hk x, h.r2.aside (Ne.symm h2) _, h.r3.aside (Ne.symm h3) _, (Below.heap_setCell _ _ _ _ (by show w.heap.size ≠ g1; omega)).trans h.rz, h.bel.setCell (by show w.heap.size ≤ g1; omega) _⟩
theorem MSt.put2 {w wr : World} {n g1 g2 g3 b k : Nat} {c : Int} {f1 f2 f3 : Nat → Int} (h : MSt w wr n g1 g2 g3 b c f1 f2 f3) (hb : b ≠ g2) (h2 : g1 ≠ g2) (h3 : g2 ≠ g3) (hl : w.heap.size < g2) (hk : k < n) (x : Int) : MSt w (wr.setCell ⟨g2, k, none⟩ (.int .i64 x)) n g1 g2 g3 b c f1 (up1 f2 k x) f3 :=
  ⟨(Below.heap_setCell _ _ _ _ (by exact hb)).trans h.mb, h.r1.aside h2 _, h.r2.put hk x, h.r3.aside (Ne.symm h3) _, (Below.heap_setCell _ _ _ _ (by show w.heap.size ≠ g2; omega)).trans h.rz, h.bel.setCell (by show w.heap.size ≤ g2; omega) _⟩
theorem MSt.put3 {w wr : World} {n g1 g2 g3 b k : Nat} {c : Int} {f1 f2 f3 : Nat → Int} (h : MSt w wr n g1 g2 g3 b c f1 f2 f3) (hb : b ≠ g3) (h2 : g1 ≠ g3) (h3 : g2 ≠ g3) (hl : w.heap.size < g3) (hk : k < n) (x : Int) : MSt w (wr.setCell ⟨g3, k, none⟩ (.int .i64 x)) n g1 g2 g3 b c f1 f2 (up1 f3 k x) :=
  ⟨(Below.heap_setCell _ _ _ _ (by exact hb)).trans h.mb, h.r1.aside h2 _, h.r2.aside h3 _, h.r3.put hk x, (Below.heap_setCell _ _ _ _ (by show w.heap.size ≠ g3; omega)).trans h.rz, h.bel.setCell (by show w.heap.size ≤ g3; omega) _⟩
theorem MSt.putC {w wr : World} {n g1 g2 g3 b : Nat} {c : Int} {f1 f2 f3 : Nat → Int} (h : MSt w wr n g1 g2 g3 b c f1 f2 f3) (hb1 : b ≠ g1) (hb2 : b ≠ g2) (hb3 : b ≠ g3) (hl : w.heap.size < b) (x : Int) : MSt w (wr.setCell ⟨b, 1, none⟩ (.int .i64 x)) n g1 g2 g3 b x f1 f2 f3 :=
  ⟨heap_setCell_same wr b 1 _ _ _ h.mb, h.r1.aside (Ne.symm hb1) _, h.r2.aside (Ne.symm hb2) _, h.r3.aside (Ne.symm hb3) _, (Below.heap_setCell _ _ _ _ (by show w.heap.size ≠ b; omega)).trans h.rz, h.bel.setCell (by show w.heap.size ≤ b; omega) _⟩
theorem MSt.cells {w wr : World} {n g1 g2 g3 b : Nat} {c : Int} {f1 f2 f3 : Nat → Int} (h : MSt w wr n g1 g2 g3 b c f1 f2 f3) : b < wr.heap.size ∧ wr.cell? ⟨b, 0, none⟩ = some (.bool true) ∧ wr.cell? ⟨b, 1, none⟩ = some (.int .i64 c) ∧ wr.cell? ⟨b, 2, none⟩ = some (.slice (some ⟨g1, 0, none⟩) n n) ∧ wr.cell? ⟨b, 3, none⟩ = some (.slice (some ⟨g2, 0, none⟩) n n) ∧ wr.cell? ⟨b, 4, none⟩ = some (.slice (some ⟨g3, 0, none⟩) n n) ∧ wr.cell? ⟨b, 5, none⟩ = some (.slice none 0 0) ∧ wr.frozen? ⟨b, 1, none⟩ = false := by
  refine ⟨(Array.getElem?_eq_some_iff.1 h.mb).1, ?_, ?_, ?_, ?_, ?_, ?_, frozen_of_row wr b 1 _ _ h.mb⟩ <;> (rw [cell_of_row _ _ _ _ _ _ h.mb]; rfl)

set_option maxRecDepth 100000 in
set_option maxHeartbeats 4000000 in
theorem match_any (p n : Nat) (C : Nat → Nat → Int) (vc : Value) (u v ow : Nat → Int) (wb w : World) (hn : n ≤ 10) (_hpb : wb.heap.size ≤ p) (hB : Below wb.heap.size wb w) (hsq : SqR wb vc n C) (hc : CellOk n C) (ho : ∀ j, j < n → ∃ i : Nat, ow j = i ∧ i < n) (hcl : ∀ j, j < n → 0 ≤ C (ow j).toNat j) (ht : TabAt w p n vc u v ow) :
    Calls Try.prog 61 #[.pointer (some ⟨p, 0, none⟩)] w fun e w' => ∃ g1 g2 g3, e = .returned (.agg #[.bool true, .int .i64 (sumL (fun c => C (ow c).toNat c) (List.range n)), .slice (some ⟨g1, 0, none⟩) n n, .slice (some ⟨g2, 0, none⟩) n n, .slice (some ⟨g3, 0, none⟩) n n, .slice none 0 0]) ∧ w.heap.size ≤ g1 ∧ w.heap.size ≤ g2 ∧ w.heap.size ≤ g3 ∧ g1 ≠ g2 ∧ g1 ≠ g3 ∧ g2 ≠ g3 ∧ RowAt w' g1 n (colS ow n) ∧ RowAt w' g2 n (putS ow u n) ∧ RowAt w' g3 n v ∧ Below w.heap.size w w' := by
  obtain ⟨i0, hi, hz0, hz1, hz2⟩ := info_parts Try.infoInt
  have hmk0 : ∀ W : World, (Instr.makeSlice 37 (.int .i64 (n : Int)) (.int .i64 (n : Int))).run Try.prog W = .ok (.slice (some ⟨W.heap.size, 0, none⟩) n n) (W.alloc (.cells (madeCells #[Value.int .i64 0] n) 3)) := fun W => by
    have h := run_make (P := Try.prog) W 37 3 i0 (.int .i64 0) Try.underlying37 hi hz0 .i64 .i64 n n (by omega) (by omega) (by rw [hz2]; omega) (by omega)
    rw [hz1, Nat.mul_one, Int.toNat_natCast] at h
    exact h
  obtain ⟨mz, hmz⟩ : ∃ mz, mz = madeCells #[Value.int .i64 0] n := ⟨_, rfl⟩
  rw [← hmz] at hmk0
  have HMZ : Hid (mz.size = n ∧ ∀ i, i < n → mz[i]? = some (.int .i64 0)) := by
    have e : mz.toList = List.replicate n (.int .i64 0) := by rw [hmz, toList_madeCells_one]
    refine ⟨?_, fun i hi => ?_⟩
    · have := congrArg List.length e; simpa using this
    · rw [← Array.getElem?_toList, e, List.getElem?_replicate, if_pos hi]
  have HT := hid ht
  have t0 := ht.c0
  have hpw := ht.lt
  have HSQ := hid hsq
  have HB := hid hB
  have HO := hid ho
  have HCL := hid hcl
  have HCK := hid hc
  clear hmz hi hz0 hz1 hz2 ht hsq hB hc hcl ho
  go_enter Try.func61, Try.ntmps61
  go_wp2_with fail
  refine wp_via (mPost w mz p n) ?imp ?reg
  case reg =>
    intro hrest
    have HREST := hid hrest
    clear hrest
    have hp1 : p < w.heap.size + 1 := by omega
    have hp2 : p < w.heap.size + 2 := by omega
    have hp3 : p < w.heap.size + 3 := by omega
    have hp4 : p < w.heap.size + 4 := by omega
    have hp5 : p < w.heap.size + 1 + 1 := by omega
    have hp6 : p < w.heap.size + 1 + 1 + 1 := by omega
    have hp7 : p < w.heap.size + 1 + 1 + 1 + 1 := by omega
    have hp8 : ¬ p = w.heap.size := by omega
    have hp9 : ¬ p = w.heap.size + 1 := by omega
    have hpa : ¬ p = w.heap.size + 2 := by omega
    have hpc : ¬ p = w.heap.size + 3 := by omega
    have hpd : ¬ p = w.heap.size + 4 := by omega
    clear HT HSQ HB HMZ HO HCL HCK
    go_region
    all_goals
      refine HREST.out _ _ (mPost_mk rfl ?_)
      obtain ⟨x0, x1, x2, x3, x4, x5⟩ := five_at w _ _ _ _ _
      exact ⟨x0, by omega, by omega, by omega, by omega, by omega, by omega, by omega, x1, by assumption, by assumption, by assumption, by assumption⟩
  case imp =>
    intro a w1 hre
    unfold mPost at hre
    obtain ⟨g1, g2, g3, b, rfl, hmd⟩ := hre
    simp only [und54, List.cons_append, List.nil_append]
    have hbl : b < w1.heap.size := (Array.getElem?_eq_some_iff.1 hmd.hb).1
    have hb1 : b ≠ g1 := fun e => by have h := hmd.hb; rw [e, hmd.h1] at h; cases h
    have hb2 : b ≠ g2 := fun e => by have h := hmd.hb; rw [e, hmd.h2] at h; cases h
    have hb3 : b ≠ g3 := fun e => by have h := hmd.hb; rw [e, hmd.h3] at h; cases h
    have hn12 := hmd.n12
    have hn13 := hmd.n13
    have hn23 := hmd.n23
    have hl1 := hmd.l1
    have hl2 := hmd.l2
    have hl3 := hmd.l3
    have hlb := hmd.lb
    have HM0 : Hid (MSt w w1 n g1 g2 g3 b 0 (colS ow 0) (putS ow u 0) (vS v 0)) := ⟨hmd.hb, ⟨mz, hmd.h1, HMZ.out.1, HMZ.out.2⟩, ⟨mz, hmd.h2, HMZ.out.1, HMZ.out.2⟩, ⟨mz, hmd.h3, HMZ.out.1, fun i hi => by rw [HMZ.out.2 i hi]; unfold vS; rw [if_neg (by omega)]⟩, hmd.res, hmd.bel⟩
    obtain ⟨ct, hct⟩ : ∃ ct : Nat → Int, ct = fun k => sumL (fun c => C (ow c).toNat c) (List.range k) := ⟨_, rfl⟩
    have HC0 : Hid (ct 0 = 0) := by show _ = _; rw [hct]; rfl
    have HC1 : Hid (∀ k, ct (k + 1) = ct k + C (ow k).toNat k) := fun k => by rw [hct]; simp [List.range_succ, sumL_append, sumL]
    have HCN : Hid (ct n = sumL (fun c => C (ow c).toNat c) (List.range n)) := by show _ = _; rw [hct]
    clear hmd hct hmk0 HMZ
    go_wp2_with fail
    go_loopw [4] (fun i wr => ∃ k : Nat, k ≤ n ∧ i = .int .i64 k ∧ (0 ≤ ct k ∧ ct k ≤ (k : Int) * 200000) ∧ Hid (MSt w wr n g1 g2 g3 b (ct k) (colS ow k) (putS ow u k) (vS v k))) (fun i _ => n - (intOf i).toNat)
    case atStart => exact ⟨0, Nat.zero_le _, rfl, by rw [HC0.out]; omega, by rw [HC0.out]; exact HM0⟩
    case round =>
      clear HM0 hbl hpw t0
      obtain ⟨k, hk, rfl, hck, HM⟩ := hrel
      have HT1 := hid (HT.out.below HM.out.bel)
      have t0 := HT1.out.c0
      have hpw := HT1.out.lt
      obtain ⟨hbw, m0, m1, m2, m3, m4, m5, mf⟩ := HM.out.cells
      by_cases hlt : k < n
      · obtain ⟨i, hi', hin⟩ := HO.out k hlt
        have o0 := HT1.out.co k (by omega)
        rw [hi'] at o0
        have r1 := HM.out.r1.cell hin
        have rf := HM.out.r1.frozen i
        have hg1 := HM.out.r1.lt
        have ik : (0 : Int) ≤ (k : Int) := by omega
        have jk : (k : Int) < 10 := by omega
        have jkn : (k : Int) < (n : Int) := by omega
        have ii : (0 : Int) ≤ (i : Int) := by omega
        have ji : (i : Int) < 10 := by omega
        have jin : (i : Int) < (n : Int) := by omega
        have HCI : Hid (ct (k + 1) = ct k + C i k) := by show _ = _; rw [HC1.out, hi']; simp
        have hcb : 0 ≤ C i k ∧ C i k ≤ 200000 := by have h1 := HCL.out k hlt; rw [hi'] at h1; simp at h1; exact ⟨h1, (HCK.out i k hin hlt).2⟩
        have HU1 : Hid (colS ow (k + 1) = up1 (colS ow k) i (k : Int)) := by show _ = _; rw [colS_succ, hi', Int.toNat_natCast]
        have HU2 : Hid (putS ow u (k + 1) = up1 (putS ow u k) i (u i)) := by show _ = _; rw [putS_succ, hi', Int.toNat_natCast]
        have HUI := hid (HT1.out.cu i (by omega))
        clear hi'
        go_wp2_with go_in
        have HMA : Hid (MSt w (wr.setCell ⟨g1, i, none⟩ (.int .i64 k)) n g1 g2 g3 b (ct k) (colS ow (k + 1)) (putS ow u k) (vS v k)) := by show MSt _ _ _ _ _ _ _ _ _ _ _; rw [HU1.out]; exact HM.out.put1 hb1 hn12 hn13 hl1 hin _
        obtain ⟨wA, hwA⟩ : ∃ wA, wA = wr.setCell ⟨g1, i, none⟩ (.int .i64 k) := ⟨_, rfl⟩
        rw [← hwA] at HMA ⊢
        have HTA := hid (HT.out.below HMA.out.bel)
        obtain ⟨af, cf, hvc, _, hsq⟩ := HSQ.out
        obtain ⟨fg, fgi, fci, haf, hfg, hfc, hfgi, hfr⟩ := hsq i hin
        have hbA : Below wb.heap.size wb wA := HB.out.trans (HMA.out.bel.mono HB.out.size)
        have q0 : wA.cell? ⟨p, 1, none⟩ = some (.slice (some ⟨fg, 0, none⟩) n cf) := by rw [HTA.out.c1, hvc, haf]
        have q1 : wA.cell? ⟨fg, i, none⟩ = _ := (hbA.cell (by exact hfg)).trans hfc
        have q2 : wA.cell? ⟨fgi, k, none⟩ = _ := (hbA.cell (by exact hfgi)).trans (hfr k hlt)
        have q3 : fg < wA.heap.size := Nat.lt_of_lt_of_le hfg hbA.size
        have q4 : fgi < wA.heap.size := Nat.lt_of_lt_of_le hfgi hbA.size
        have q5 := HTA.out.lt
        obtain ⟨d, hd⟩ : ∃ d, d = C i k := ⟨_, rfl⟩
        rw [← hd] at q2 hcb HCI
        obtain ⟨hbA1, a0, a1, a2, a3, a4, a5, af2⟩ := HMA.out.cells
        obtain ⟨cc, hcc⟩ : ∃ cc, cc = ct k := ⟨_, rfl⟩
        rw [← hcc] at a1 hck HMA HCI
        have wz1 : IntKind.i64.wrap (cc + d) = cc + d := i64_fits _ (by omega)
        have HCX : Hid (ct (k + 1) = cc + d) := HCI
        clear hsq hfr hvc haf hbA hd hwA HM HT1 t0 o0 r1 rf hg1 m0 m1 m2 m3 m4 m5 mf hbw hpw hcc HCI
        go_wp2_with go_in
        go_region
        have HMB : Hid (MSt w (wA.setCell ⟨b, 1, none⟩ (.int .i64 (cc + d))).drew n g1 g2 g3 b (cc + d) (colS ow (k + 1)) (putS ow u k) (vS v k)) := (HMA.out.putC hb1 hb2 hb3 hlb _).drew
        obtain ⟨wB, hwB⟩ : ∃ wB, wB = (wA.setCell ⟨b, 1, none⟩ (.int .i64 (cc + d))).drew := ⟨_, rfl⟩
        rw [← hwB] at HMB ⊢
        have HTB := hid (HT.out.below HMB.out.bel)
        have b1 := HTB.out.cu i (by omega)
        have b2 := HTB.out.cv k (by omega)
        have b3 := HTB.out.lt
        obtain ⟨hbB1, e0, e1, e2, e3, e4, e5, ef2⟩ := HMB.out.cells
        have b4 := HMB.out.r2.cell hin
        have b5 := HMB.out.r2.frozen i
        have b6 := HMB.out.r2.lt
        clear q0 q1 q2 q3 q4 q5 a0 a1 a2 a3 a4 a5 af2 hbA1 hwB HMA HTA
        go_wp2_with go_in
        go_region
        have HMC : Hid (MSt w (wB.setCell ⟨g2, i, none⟩ (.int .i64 (u i))).drew n g1 g2 g3 b (cc + d) (colS ow (k + 1)) (putS ow u (k + 1)) (vS v k)) := by show MSt _ _ _ _ _ _ _ _ _ _ _; rw [HU2.out]; exact (HMB.out.put2 hb2 hn12 hn23 hl2 hin _).drew
        obtain ⟨wC, hwC⟩ : ∃ wC, wC = (wB.setCell ⟨g2, i, none⟩ (.int .i64 (u i))).drew := ⟨_, rfl⟩
        rw [← hwC] at HMC ⊢
        have HTC := hid (HT.out.below HMC.out.bel)
        have x2 := HTC.out.cv k (by omega)
        have x3 := HTC.out.lt
        obtain ⟨hbC1, y0, y1, y2, y3, y4, y5, yf2⟩ := HMC.out.cells
        have x4 := HMC.out.r3.cell hlt
        have x5 := HMC.out.r3.frozen k
        have x6 := HMC.out.r3.lt
        clear b1 b2 b3 b4 b5 b6 hbB1 e0 e1 e2 e3 e4 e5 ef2 hwC HMB HTB
        go_wp2_with go_in
        go_region
        have HMD : Hid (MSt w (wC.setCell ⟨g3, k, none⟩ (.int .i64 (v k))).drew n g1 g2 g3 b (cc + d) (colS ow (k + 1)) (putS ow u (k + 1)) (vS v (k + 1))) := by show MSt _ _ _ _ _ _ _ _ _ _ _; rw [← vS_succ]; exact (HMC.out.put3 hb3 hn13 hn23 hl3 hlt _).drew
        go_wp2
        go_roundw
        case rel => exact ⟨k + 1, by omega, by go_num, by rw [HCX.out]; omega, by rw [HCX.out]; exact HMD⟩
        case measure => simp [intOf]; omega
      · have hke : k = n := by omega
        have HMN : Hid (MSt w wr n g1 g2 g3 b (ct n) (colS ow n) (putS ow u n) (vS v n)) := by have hM := HM.out; rw [hke] at hM; exact hM
        obtain ⟨ctn, hctn⟩ : ∃ ctn, ctn = ct n := ⟨_, rfl⟩
        have HCE : Hid (sumL (fun c => C (ow c).toNat c) (List.range n) = ctn) := by show _ = _; rw [hctn, HCN.out]
        rw [hke] at m1
        rw [← hctn] at m1 HMN
        have hrl : w.heap.size < wr.heap.size := (Array.getElem?_eq_some_iff.1 HMN.out.rz).1
        obtain ⟨z0, z1, z2, z3, z4, z5, zf⟩ : wr.cell? ⟨w.heap.size, 0, none⟩ = some (.bool false) ∧ wr.cell? ⟨w.heap.size, 1, none⟩ = some (.int .i64 0) ∧ wr.cell? ⟨w.heap.size, 2, none⟩ = some (.slice none 0 0) ∧ wr.cell? ⟨w.heap.size, 3, none⟩ = some (.slice none 0 0) ∧ wr.cell? ⟨w.heap.size, 4, none⟩ = some (.slice none 0 0) ∧ wr.cell? ⟨w.heap.size, 5, none⟩ = some (.slice none 0 0) ∧ ∀ o, wr.frozen? ⟨w.heap.size, o, none⟩ = false := by
          refine ⟨?_, ?_, ?_, ?_, ?_, ?_, fun o => frozen_of_row wr _ o _ _ HMN.out.rz⟩ <;> (rw [cell_of_row _ _ _ _ _ _ HMN.out.rz]; rfl)
        clear hke hctn HM hck
        go_wp2_with go_in
        refine bodyPost_ret (v := .agg #[.bool true, .int .i64 ctn, .slice (some ⟨g1, 0, none⟩) n n, .slice (some ⟨g2, 0, none⟩) n n, .slice (some ⟨g3, 0, none⟩) n n, .slice none 0 0]) (by simp [results, Try.results61, go_sem, z0, z1, z2, z3, z4, z5]) rfl ?_
        have hne1 : g1 ≠ w.heap.size := by omega
        have hne2 : g2 ≠ w.heap.size := by omega
        have hne3 : g3 ≠ w.heap.size := by omega
        refine ⟨g1, g2, g3, by rw [HCE.out], by omega, by omega, by omega, hn12, hn13, hn23, ?_, ?_, ?_, ?_⟩
        · exact (((((HMN.out.r1.aside hne1 _).aside hne1 _).aside hne1 _).aside hne1 _).aside hne1 _).aside hne1 _
        · exact (((((HMN.out.r2.aside hne2 _).aside hne2 _).aside hne2 _).aside hne2 _).aside hne2 _).aside hne2 _
        · exact ((((((HMN.out.r3.aside hne3 _).aside hne3 _).aside hne3 _).aside hne3 _).aside hne3 _).aside hne3 _).congr (fun i hi => by unfold vS; rw [if_pos hi])
        · exact (((((HMN.out.bel.setCell (by exact Nat.le_refl _) _).setCell (by exact Nat.le_refl _) _).setCell (by exact Nat.le_refl _) _).setCell (by exact Nat.le_refl _) _).setCell (by exact Nat.le_refl _) _).setCell (by exact Nat.le_refl _) _
end Go.Proofs.Ytebinaopncclgaa
