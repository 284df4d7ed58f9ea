/- Walks: a text is parsed. -/
import Derived.Test.YtebinaopncclgabRdrL
namespace Go.Proofs.Ytebinaopncclgab
open Go.RowKit Go.IntWalk

/- what Parse leaves: the numbers, the two lists in memory of its own -/
def inst (r : Rd) (vs vr : Value) : Value := .agg #[.int .i64 r.vans, .int .i64 r.load, .int .i64 r.close, .int .i64 r.nodes, .int .i64 r.home, vs, vr]
def Parsed (w : World) (x : Rd × Nat × Int) (e : Ending) (w' : World) : Prop :=
  ∃ vs vr, e = .returned (.tuple #[inst x.1 vs vr, .int .i64 x.2.1, .int .i64 x.2.2]) ∧ w'.ownsRow w.heap.size 38 5 vs x.1.stops.length (ints x.1.stops.flatten) ∧ w'.ownsRow w.heap.size 40 3 vr x.1.roads.length (ints x.1.roads.flatten) ∧ Below w.heap.size w w'

def zero7 : Array Value := #[.int .i64 0, .int .i64 0, .int .i64 0, .int .i64 0, .int .i64 0, .slice none 0 0, .slice none 0 0]
theorem box7 {w : World} {b : Nat} (h : w.heap[b]? = some (.cells zero7 25 (0, 0))) :
    w.cell? ⟨b, 0, none⟩ = some (.int .i64 0) ∧ w.cell? ⟨b, 1, none⟩ = some (.int .i64 0) ∧ w.cell? ⟨b, 2, none⟩ = some (.int .i64 0) ∧ w.cell? ⟨b, 3, none⟩ = some (.int .i64 0) ∧ w.cell? ⟨b, 4, none⟩ = some (.int .i64 0) ∧ w.cell? ⟨b, 5, none⟩ = some (.slice none 0 0) ∧ w.cell? ⟨b, 6, none⟩ = some (.slice none 0 0) ∧ ∀ o, w.frozen? ⟨b, o, none⟩ = false := by
  refine ⟨?_, ?_, ?_, ?_, ?_, ?_, ?_, fun o => frozen_of_row w b o _ _ h⟩ <;> (rw [cell_of_row w b _ _ _ _ h]; rfl)

theorem spl_bound (c : UInt8) (l : List UInt8) : ∀ st : List (List UInt8) × List UInt8, (l.foldl (stepL c) st).1.length ≤ st.1.length + l.length ∧
    (∀ m, (∀ f ∈ st.1, f.length ≤ m) → st.2.length ≤ m → (∀ f ∈ (l.foldl (stepL c) st).1, f.length ≤ m + l.length) ∧ (l.foldl (stepL c) st).2.length ≤ m + l.length) := by
  induction l with
  | nil => intro st; exact ⟨by simp, fun m h1 h2 => ⟨by simpa using h1, by simpa using h2⟩⟩
  | cons x t ih =>
    intro st
    obtain ⟨a, b⟩ := ih (stepL c st x)
    have hs : (stepL c st x).1.length ≤ st.1.length + 1 := by
      unfold stepL
      split <;> simp
    refine ⟨by simp only [List.foldl_cons, List.length_cons]; omega, fun m h1 h2 => ?_⟩
    have key : (∀ f ∈ (stepL c st x).1, f.length ≤ m + 1) ∧ (stepL c st x).2.length ≤ m + 1 := by
      unfold stepL
      split
      · refine ⟨fun f hf => ?_, by simp⟩
        simp only [List.mem_append, List.mem_singleton] at hf
        rcases hf with hf | rfl
        · have := h1 f hf; omega
        · omega
      · exact ⟨fun f hf => by have := h1 f hf; omega, by simp; omega⟩
    have := b (m + 1) key.1 key.2
    simp only [List.foldl_cons, List.length_cons]
    exact ⟨fun f hf => by have := this.1 f hf; omega, by have := this.2; omega⟩
theorem splitB_len (c : UInt8) (l : List UInt8) : ∀ f ∈ splitB c l, f.length ≤ l.length := by
  have h := (spl_bound c l ([], [])).2 0 (by simp) (by simp)
  intro f hf
  unfold splitB at hf
  simp only [List.mem_append, List.mem_singleton] at hf
  rcases hf with hf | rfl
  · have := h.1 f hf; omega
  · have := h.2; unfold spl; omega
theorem splitB_count (c : UInt8) (l : List UInt8) : (splitB c l).length ≤ l.length + 1 := by
  have h := (spl_bound c l ([], [])).1
  unfold splitB spl
  simp at h ⊢; omega

/- a line more leaves the counts within their bounds -/
theorem rdVals_fine {r : Rd} (h : RdFine r) (f : List UInt8) (vs : List Int) : RdFine (rdVals r f vs).1 := by
  have hd : ∀ a b c d e, RdFine (rdDepot r a b c d e).1 := by
    intro a b c d e; unfold rdDepot; split
    · exact h
    · split
      · exact ⟨by simp, by simp⟩
      · exact h
  have hst : ∀ a b c d e, RdFine (rdStop r a b c d e).1 := by
    intro a b c d e; unfold rdStop; split
    · exact h
    · split
      · exact h
      · split
        · exact ⟨by simp; omega, h.2⟩
        · exact h
  have hrd : ∀ a b c, RdFine (rdRoad r a b c).1 := by
    intro a b c; unfold rdRoad; split
    · exact h
    · split
      · exact h
      · split
        · exact ⟨h.1, by simp; omega⟩
        · exact h
  unfold rdVals
  split
  · split
    · exact hd _ _ _ _ _
    · exact h
  · split
    · split
      · exact hst _ _ _ _ _
      · exact h
    · split
      · split
        · exact hrd _ _ _
        · exact h
      · exact h
theorem rdLine_fine {r : Rd} (h : RdFine r) (l : List UInt8) : RdFine (rdLine r l).1 := by
  unfold rdLine
  split
  · exact h
  · split
    · exact rdVals_fine h _ _
    · exact h

theorem rdGo_step {r : Rd} {k : Nat} {ls : List (List UInt8)} (h : k < ls.length) (he : (rdLine r ls[k]).2 = 0) : rdGo r k (ls.drop k) = rdGo (rdLine r ls[k]).1 (k + 1) (ls.drop (k + 1)) := by
  rw [List.drop_eq_getElem_cons h]; show (if _ then _ else _) = _; rw [if_pos he]
theorem rdGo_stop {r : Rd} {k : Nat} {ls : List (List UInt8)} (h : k < ls.length) (he : (rdLine r ls[k]).2 ≠ 0) : rdGo r k (ls.drop k) = (Rd0, k + 1, (rdLine r ls[k]).2) := by
  rw [List.drop_eq_getElem_cons h]; show (if _ then _ else _) = _; rw [if_neg he]
theorem rdGo_end {r : Rd} {k : Nat} {ls : List (List UInt8)} (h : ls.length ≤ k) : rdGo r k (ls.drop k) = (r, 0, 0) := by
  rw [List.drop_eq_nil_of_le h]; rfl
theorem parse_fault {l : List UInt8} {k : Nat} {e : Int} (hl : l.length ≤ 2000) (h : rdGo Rd0 0 (splitB 10 l) = (Rd0, k, e)) (he : e ≠ 0) : parseS l = (Rd0, k, e) := by
  unfold parseS; rw [if_neg (by omega), h, if_neg he]
theorem parse_ok {l : List UInt8} {r : Rd} (hl : l.length ≤ 2000) (h : rdGo Rd0 0 (splitB 10 l) = (r, 0, 0)) (hh : r.head = true) : parseS l = (r, 0, 0) := by
  unfold parseS; rw [if_neg (by omega), h, if_pos rfl, if_pos hh]
theorem parse_none {l : List UInt8} {r : Rd} (hl : l.length ≤ 2000) (h : rdGo Rd0 0 (splitB 10 l) = (r, 0, 0)) (hh : r.head = false) : parseS l = (Rd0, (splitB 10 l).length, 2) := by
  unfold parseS; rw [if_neg (by omega), h, if_pos rfl, if_neg (by simp [hh])]

def RdIs (w wr : World) (r : Rd) (vs vr : Value) : Prop := RdAt wr w.heap.size (w.heap.size + 1) r vs vr ∧ wr.heap[w.heap.size]? = some (.cells zero7 25 (0, 0)) ∧ Below w.heap.size w wr
theorem rd_next {w wr w2 : World} {r : Rd} {vs vr : Value} {x : Rd × Int} {e : Ending} {B n : Nat} {v : Value} {xs : List Value} (h : RdIs w wr r vs vr) (hl : RdLeft wr w.heap.size (w.heap.size + 1) x e w2) (hv : wr.ownsRow B 9 1 v n xs) :
    ∃ vs' vr', RdIs w w2 x.1 vs' vr' ∧ w2.ownsRow B 9 1 v n xs := by
  obtain ⟨vs', vr', _, h1, h2, h3⟩ := hl
  exact ⟨vs', vr', ⟨h1, h3 _ _ _ _ h.2.1 (by decide), h.2.2.trans h2⟩, own_keep hv h3 (by decide)⟩
theorem parsed_none {w w' : World} {k : Nat} {e : Int} {x : Rd × Nat × Int} (hx : x = (Rd0, k, e)) (h : Below w.heap.size w w') : Parsed w x (.returned (.tuple #[.agg zero7, .int .i64 k, .int .i64 e])) w' := by
  subst hx
  exact ⟨.slice none 0 0, .slice none 0 0, rfl, World.ownsRow_nil _ _ _ _, World.ownsRow_nil _ _ _ _, h⟩
theorem below_put7 (B b : Nat) (w : World) (hB : B ≤ b) (u0 u1 u2 u3 u4 u5 u6 : Value) : Below B w (((((((w.setCell ⟨b, 0, none⟩ u0).setCell ⟨b, 1, none⟩ u1).setCell ⟨b, 2, none⟩ u2).setCell ⟨b, 3, none⟩ u3).setCell ⟨b, 4, none⟩ u4).setCell ⟨b, 5, none⟩ u5).setCell ⟨b, 6, none⟩ u6) :=
  (((((((Below.refl B w).setCell hB u0).setCell hB u1).setCell hB u2).setCell hB u3).setCell hB u4).setCell hB u5).setCell hB u6

theorem own_put7 {w : World} {b : Nat} {cs : Array Value} {t : TypeId} (hb : w.heap[b]? = some (.cells cs t (0, 0))) {B n size : Nat} {e : TypeId} {v : Value} {xs : List Value} (h : w.ownsRow B e size v n xs) (he : e ≠ t) {u0 u1 u2 u3 u4 u5 u6 : Value} :
    (((((((w.setCell ⟨b, 0, none⟩ u0).setCell ⟨b, 1, none⟩ u1).setCell ⟨b, 2, none⟩ u2).setCell ⟨b, 3, none⟩ u3).setCell ⟨b, 4, none⟩ u4).setCell ⟨b, 5, none⟩ u5).setCell ⟨b, 6, none⟩ u6).ownsRow B e size v n xs := by
  have h1 := own_setCell (o := 0) h hb he u0
  have k1 := heap_setCell_same w b 0 _ _ u0 hb
  have h2 := own_setCell (o := 1) h1 k1 he u1
  have k2 := heap_setCell_same _ b 1 _ _ u1 k1
  have h3 := own_setCell (o := 2) h2 k2 he u2
  have k3 := heap_setCell_same _ b 2 _ _ u2 k2
  have h4 := own_setCell (o := 3) h3 k3 he u3
  have k4 := heap_setCell_same _ b 3 _ _ u3 k3
  have h5 := own_setCell (o := 4) h4 k4 he u4
  have k5 := heap_setCell_same _ b 4 _ _ u4 k4
  have h6 := own_setCell (o := 5) h5 k5 he u5
  have k6 := heap_setCell_same _ b 5 _ _ u5 k5
  exact own_setCell (o := 6) h6 k6 he u6

set_option maxRecDepth 100000 in
set_option maxHeartbeats 1000000 in
theorem parse_long (s : ByteArray) (w : World) (hlong : 2000 < s.size) (hs : s.size ≤ maxLen) : Calls Try.prog 18 #[.string s] w (Parsed w (parseS s.data.toList)) := by
  unfold maxLen at hs
  have hx : parseS s.data.toList = (Rd0, 0, 1) := by unfold parseS; rw [if_pos (by simpa using hlong)]
  have HX := hide hx
  clear hx
  go_enter Try.func18, Try.ntmps18
  go_wp2
  refine bodyPost_ret (v := .tuple #[.agg zero7, .int .i64 0, .int .i64 1]) (by simp [results, Try.results18, go_sem, zero7]) rfl ?_
  exact parsed_none HX.out (below1 _ _)

set_option maxRecDepth 100000 in
set_option maxHeartbeats 1000000 in
theorem parse_any (s : ByteArray) (w : World) (hsm : s.size ≤ maxLen) : Calls Try.prog 18 #[.string s] w (Parsed w (parseS s.data.toList)) := by
  by_cases hlong : 2000 < s.size
  · exact parse_long s w hlong hsm
  · have hs : s.size ≤ 2000 := by omega
    have HLL : Hid (s.data.toList.length ≤ 2000) := by show _ ≤ _; simpa using hs
    obtain ⟨ls, hls⟩ : ∃ ls, ls = splitB 10 s.data.toList := ⟨_, rfl⟩
    have hlen := splitB_len 10 s.data.toList
    have hcnt := splitB_count 10 s.data.toList
    rw [← hls] at hlen hcnt
    have hn : ls.length ≤ 2001 := by have := HLL.out; omega
    have hn1 : 1 ≤ ls.length := by rw [hls]; unfold splitB; simp
    have HL := hide hlen
    have HLS := hide hls
    clear hlen hcnt hsm
    have hcon := lines_any s ((w.alloc (.cells zero7 25)).alloc (.cells (rdCells Rd0 (.slice none 0 0) (.slice none 0 0)) 61)) (by omega)
    rw [← hls] at hcon
    have HC := hide hcon
    clear hcon hls hlong
    go_enter Try.func18, Try.ntmps18
    go_wp2_with fail
    refine HC.out.mono ?_
    rintro e1 w1 ⟨v, rfl, hown, hbel⟩
    obtain ⟨g, cap, cur, rfl, _, hg, hcap⟩ := own_shape hown (by omega)
    have hgl : g < w1.heap.size := (Array.getElem?_eq_some_iff.1 hg).1
    have hI : RdIs w w1 Rd0 (.slice none 0 0) (.slice none 0 0) := by
      have hb2 := below2 w (.cells zero7 25) (.cells (rdCells Rd0 (.slice none 0 0) (.slice none 0 0)) 61)
      refine ⟨⟨by omega, ?_, World.ownsRow_nil _ _ _ _, World.ownsRow_nil _ _ _ _⟩, ?_, hb2.trans (hbel.mono (by simp; omega))⟩
      · rw [hbel.block _ (by simp)]; have := heap_alloc_new (w.alloc (.cells zero7 25)) (.cells (rdCells Rd0 (.slice none 0 0) (.slice none 0 0)) 61); simpa using this
      · rw [hbel.block _ (by simp; omega), Below.heap_alloc _ _ _ (by simp)]; exact heap_alloc_new w _
    have HI := hide hI
    have HO := hide hown
    clear hI hown hbel hg HC
    go_wp2_with fail
    go_loopw [7] (fun i wr => ∃ (k : Nat) (r : Rd) (vs vr : Value), k ≤ ls.length ∧ i = .int .i64 k ∧ Hid (rdGo Rd0 0 ls = rdGo r k (ls.drop k)) ∧ Hid (RdFine r) ∧ Hid (RdIs w wr r vs vr) ∧ Hid (wr.ownsRow (w.heap.size + 1 + 1) 9 1 (.slice (some ⟨g, 0, none⟩) ls.length cap) ls.length (strs ls))) (fun i _ => ls.length - (intOf i).toNat)
    case atStart => exact ⟨0, Rd0, _, _, Nat.zero_le _, rfl, rfl, ⟨by simp [Rd0], by simp [Rd0]⟩, HI, by have h := HO.out; simp only [World.size_alloc] at h; exact h⟩
    case round =>
      clear HI HO
      obtain ⟨k, r, vs, vr, hk, rfl, HG, HF, HI, HO⟩ := hrel
      by_cases hlt : k < ls.length
      · have hcell : wr.cell? ⟨g, k, none⟩ = some (.string ⟨(ls[k]).toArray⟩) := by
          rw [HO.out.cellAt k (by omega)]; simp [strs, hlt]
        obtain ⟨l, hl⟩ : ∃ l, l = ls[k] := ⟨_, rfl⟩
        rw [← hl] at hcell
        have HLk := hide hl
        have hll : l.length ≤ 2000 := by have h1 := HL.out l (by rw [hl]; exact List.getElem_mem _); have h2 := HLL.out; omega
        clear hl
        have hcon := rline_any w.heap.size (w.heap.size + 1) ⟨l.toArray⟩ r vs vr wr HI.out.1 HF.out (by show l.toArray.size ≤ _; simpa using hll)
        have HC : Hid (Calls Try.prog 22 #[.pointer (some ⟨w.heap.size + 1, 0, none⟩), .string ⟨l.toArray⟩] wr (RdLeft wr w.heap.size (w.heap.size + 1) (rdLine r l))) := hcon
        clear hcon
        by_cases he : (rdLine r l).2 = 0
        · have HG' : Hid (rdGo Rd0 0 ls = rdGo (rdLine r l).1 (k + 1) (ls.drop (k + 1))) := by
            show _ = _; rw [HG.out, HLk.out]; exact rdGo_step hlt (by rw [← HLk.out]; exact he)
          have HF' : Hid (RdFine (rdLine r l).1) := rdLine_fine HF.out l
          have HE := hide he
          clear he
          go_wp2_with fail
          refine HC.out.mono ?_
          rintro e2 w2 hleft
          obtain ⟨vs', vr', hI', hO'⟩ := rd_next HI.out hleft HO.out
          obtain ⟨_, _, rfl, _⟩ := hleft
          rw [HE.out]
          have HI' := hide hI'
          have HO' := hide hO'
          clear hI' hO' HI HO hcell
          go_wp2
          go_roundw
          case rel => exact ⟨k + 1, _, vs', vr', by omega, by go_num, HG', HF', HI', HO'⟩
          case measure => simp [intOf]; omega
        · have HX : Hid (parseS s.data.toList = (Rd0, k + 1, (rdLine r l).2)) := by
            refine parse_fault HLL.out ?_ he
            rw [← HLS.out, HG.out, HLk.out]; exact rdGo_stop hlt (by rw [← HLk.out]; exact he)
          have hne : ((rdLine r l).2 != 0) = true := by simp [he]
          clear he
          go_wp2_with fail
          refine HC.out.mono ?_
          rintro e2 w2 hleft
          obtain ⟨vs', vr', hI', hO'⟩ := rd_next HI.out hleft HO.out
          obtain ⟨_, _, rfl, _⟩ := hleft
          obtain ⟨b0, b1, b2, b3, b4, b5, b6, hfz⟩ := box7 hI'.2.1
          have HI' := hide hI'
          clear hI' hO' HI HO hcell
          generalize (rdLine r l).2 = er at *
          go_wp2
          refine bodyPost_ret (v := .tuple #[.agg zero7, .int .i64 ((k + 1 : Nat) : Int), .int .i64 er]) (by simp [results, Try.results18, go_sem, zero7, b0, b1, b2, b3, b4, b5, b6]) rfl ?_
          exact parsed_none HX.out (HI'.out.2.2.trans (below_put7 _ _ _ (Nat.le_refl _) _ _ _ _ _ _ _))
      · have hke : k = ls.length := by omega
        subst hke
        have HG' : Hid (rdGo Rd0 0 (splitB 10 s.data.toList) = (r, 0, 0)) := by
          show _ = _; rw [← HLS.out, HG.out]; exact rdGo_end (Nat.le_refl _)
        obtain ⟨b0, b1, b2, b3, b4, b5, b6, hfz⟩ := box7 HI.out.2.1
        obtain ⟨c0, c1, c2, c3, c4, c5, c6, c7, hfr, hrl⟩ := rd_cells HI.out.1
        cases hh : r.head
        · have HX : Hid (parseS s.data.toList = (Rd0, ls.length, 2)) := by show _ = _; rw [parse_none HLL.out HG'.out hh, HLS.out]
          rw [hh] at c7
          clear c0 c1 c2 c3 c4 c5 c6 hfr
          go_wp2
          refine bodyPost_ret (v := .tuple #[.agg zero7, .int .i64 ls.length, .int .i64 2]) (by simp [results, Try.results18, go_sem, zero7, b0, b1, b2, b3, b4, b5, b6]) rfl ?_
          exact parsed_none HX.out (HI.out.2.2.trans (below_put7 _ _ _ (Nat.le_refl _) _ _ _ _ _ _ _))
        · have HX : Hid (parseS s.data.toList = (r, 0, 0)) := parse_ok HLL.out HG'.out hh
          rw [hh] at c7
          obtain ⟨aos, caps, rfl, _, _⟩ := own_val HI.out.1.2.2.1
          obtain ⟨aor, capr, rfl, _, _⟩ := own_val HI.out.1.2.2.2
          go_wp2
          rw [HX.out]
          refine bodyPost_ret (v := .tuple #[inst r (.slice aos r.stops.length caps) (.slice aor r.roads.length capr), .int .i64 0, .int .i64 0]) (by simp [results, Try.results18, go_sem, inst, b0, b1, b2, b3, b4, b5, b6]) rfl ?_
          exact ⟨_, _, rfl, own_put7 HI.out.2.1 HI.out.1.2.2.1 (by decide), own_put7 HI.out.2.1 HI.out.1.2.2.2 (by decide), HI.out.2.2.trans (below_put7 _ _ _ (Nat.le_refl _) _ _ _ _ _ _ _)⟩
end Go.Proofs.Ytebinaopncclgab
