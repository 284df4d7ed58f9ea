/- Walks of the document's answer: the whole text. -/
import Derived.Test.YtebinaopncclgaaGreatDoorRefG
namespace Go.Proofs.YtebinaopncclgaaGreatDoor
open Go.RowKit Go.IntWalk

structure RdGood (r : Rd) : Prop where
  fine : RdFine r
  none : r.head = false → r = Rd0
  lo : 0 ≤ r.nodes
  hi : r.nodes ≤ 99999
theorem good0 : RdGood Rd0 := ⟨⟨by simp [Rd0], by simp [Rd0]⟩, fun _ => rfl, by simp [Rd0], by simp [Rd0]⟩
theorem headOk_nodes {a b c d e : Int} (h : headOk a b c d e = true) : 1 ≤ d ∧ d ≤ 12 := by
  unfold headOk at h; simp at h; omega
theorem rdVals_good {r : Rd} (h : RdGood r) (f : List UInt8) (vs : List Int) : RdGood (rdVals r f vs).1 := by
  refine ⟨rdVals_fine h.fine f vs, ?_, ?_, ?_⟩
  all_goals
    unfold rdVals
    split
    · split
      · unfold rdDepot
        split
        · first | exact h.none | exact h.lo | exact h.hi
        · split
          · rename_i hh; have := headOk_nodes hh; first | (intro h'; cases h'; done) | (show _ ≤ _; simp; omega)
          · first | exact h.none | exact h.lo | exact h.hi
      · first | exact h.none | exact h.lo | exact h.hi
    · split
      · split
        · unfold rdStop
          split
          · first | exact h.none | exact h.lo | exact h.hi
          · split
            · first | exact h.none | exact h.lo | exact h.hi
            · split
              · rename_i hh _ _; first | exact fun h' => absurd h' hh | exact h.lo | exact h.hi
              · first | exact h.none | exact h.lo | exact h.hi
        · first | exact h.none | exact h.lo | exact h.hi
      · split
        · split
          · unfold rdRoad
            split
            · first | exact h.none | exact h.lo | exact h.hi
            · split
              · first | exact h.none | exact h.lo | exact h.hi
              · split
                · rename_i hh _ _; first | exact fun h' => absurd h' hh | exact h.lo | exact h.hi
                · first | exact h.none | exact h.lo | exact h.hi
          · first | exact h.none | exact h.lo | exact h.hi
        · first | exact h.none | exact h.lo | exact h.hi

def TkGood (w : World) (B : Nat) (y : Rd × Int) (q : Ending) (w' : World) : Prop :=
  ∃ x vs' vr', q = .returned (.tuple #[inst x vs' vr', .int .i64 y.2]) ∧ (∃ n a c m b d, vs' = .slice a n c ∧ vr' = .slice b m d) ∧ Below B w w' ∧ Keep tkT w w' ∧ (y.2 = 0 → inst x vs' vr' = inst y.1 vs' vr' ∧ w'.ownsRow B 50 5 vs' y.1.stops.length (ints y.1.stops.flatten) ∧ w'.ownsRow B 52 3 vr' y.1.roads.length (ints y.1.roads.flatten))
theorem left_good {w w' : World} {B : Nat} {x y : Rd × Int} {q : Ending} (h : TkLeft w B x q w') (he : x.2 = y.2) (hx : y.2 = 0 → x.1 = y.1) : TkGood w B y q w' := by
  obtain ⟨vs, vr, rfl, h1, h2, h3, h4⟩ := h
  obtain ⟨_, _, e1, _, _⟩ := own_val h1
  obtain ⟨_, _, e2, _, _⟩ := own_val h2
  refine ⟨x.1, vs, vr, by rw [he], ⟨_, _, _, _, _, _, e1, e2⟩, h3, h4, fun hy => ?_⟩
  rw [← hx hy]; exact ⟨rfl, h1, h2⟩

theorem need_letters {f : List UInt8} {n : Nat} (h : n + 1 = needS f) : f = [68] ∧ n = 5 ∨ f = [83] ∧ n = 5 ∨ f = [82] ∧ n = 3 := by
  unfold needS at h
  split at h
  · rename_i hf; exact .inl ⟨hf, by omega⟩
  · split at h
    · rename_i hf; exact .inr (.inl ⟨hf, by omega⟩)
    · split at h
      · rename_i hf; exact .inr (.inr ⟨hf, by omega⟩)
      · omega
theorem formed_yes {f : List UInt8} {fs : List (List UInt8)} {b : Bool} (h : formedS f fs b = true) : fs.length + 1 = needS f ∧ b = (f == [68]) ∧ fs.all numOk = true := by
  unfold formedS at h
  simp only [Bool.and_eq_true, decide_eq_true_eq] at h
  exact ⟨h.1.1, by simpa using h.1.2, h.2⟩
theorem vals5 {fs : List (List UInt8)} (h : fs.length = 5) : ∃ a b c d e, fs.map numV = [a, b, c, d, e] := by
  match fs, h with
  | [x0, x1, x2, x3, x4], _ => exact ⟨_, _, _, _, _, rfl⟩
theorem vals3 {fs : List (List UInt8)} (h : fs.length = 3) : ∃ a b c, fs.map numV = [a, b, c] := by
  match fs, h with
  | [x0, x1, x2], _ => exact ⟨_, _, _, rfl⟩

theorem tkS_eq {r : Rd} {a b c d e : Int} (hh : r.head = true) (h7 : r.stops.length < 7) : (tkStop r a b c d e).2 = (rdStop r a b c d e).2 ∧ ((rdStop r a b c d e).2 = 0 → (tkStop r a b c d e).1 = (rdStop r a b c d e).1) := by
  have e1 : tkStop r a b c d e = ({ r with stops := r.stops ++ [[a, b, c, d, e]] }, if stopOk a b c d e r.nodes = true then 0 else 4) := if_neg (by omega)
  have e2 : rdStop r a b c d e = if stopOk a b c d e r.nodes = true then ({ r with stops := r.stops ++ [[a, b, c, d, e]] }, 0) else (r, 4) := by
    unfold rdStop; rw [if_neg (by simp [hh] : ¬ r.head = false), if_neg (by omega : ¬ 7 ≤ r.stops.length)]
  rw [e1, e2]
  cases stopOk a b c d e r.nodes <;> simp
theorem tkR_eq {r : Rd} {a b c : Int} (hh : r.head = true) (h7 : r.roads.length < 40) : (tkRoad r a b c).2 = (rdRoad r a b c).2 ∧ ((rdRoad r a b c).2 = 0 → (tkRoad r a b c).1 = (rdRoad r a b c).1) := by
  have e1 : tkRoad r a b c = ({ r with roads := r.roads ++ [[a, b, c]] }, if roadOk a b c r.nodes = true then 0 else 4) := if_neg (by omega)
  have e2 : rdRoad r a b c = if roadOk a b c r.nodes = true then ({ r with roads := r.roads ++ [[a, b, c]] }, 0) else (r, 4) := by
    unfold rdRoad; rw [if_neg (by simp [hh] : ¬ r.head = false), if_neg (by omega : ¬ 40 ≤ r.roads.length)]
  rw [e1, e2]
  cases roadOk a b c r.nodes <;> simp
theorem taken_any (g cap N B : Nat) (r : Rd) (vs vr : Value) (f : List UInt8) (fs : List (List UInt8)) (w : World) (hN : N = fs.length + 1) (hw : Words w g f fs) (hf : formedS f fs (!r.head) = true) (hB : B ≤ w.heap.size) (hg : RdGood r)
    (hs : w.ownsRow B 50 5 vs r.stops.length (ints r.stops.flatten)) (hr : w.ownsRow B 52 3 vr r.roads.length (ints r.roads.flatten)) :
    Calls Tryz.prog 63 #[inst r vs vr, .slice (some ⟨g, 0, none⟩) N cap] w (TkGood w B (rdVals r f (fs.map numV))) := by
  obtain ⟨h1, h2, h3⟩ := formed_yes hf
  rcases need_letters h1 with ⟨rfl, hl⟩ | ⟨rfl, hl⟩ | ⟨rfl, hl⟩
  · obtain ⟨a, b, c, d, e, hv⟩ := vals5 hl
    have hh : r.head = false := by simpa using h2
    have hr0 := hg.none hh
    obtain ⟨aq, cs, e1, _, _⟩ := own_val hs
    obtain ⟨ar, cr, e2, _, _⟩ := own_val hr
    obtain rfl : N = 6 := by omega
    refine (taken_D g cap r vs vr fs a b c d e w hw hv h3 _ _ _ _ _ _ e1 e2).mono ?_
    rintro q w' ⟨rfl, hb⟩
    have hy : rdVals r [68] (fs.map numV) = rdDepot r a b c d e := by rw [hv]; rfl
    rw [hy]
    cases hok : headOk a b c d e
    · have hz : rdDepot r a b c d e = (r, 4) := by unfold rdDepot; rw [if_neg (by simp [hh]), if_neg (by simp [hok])]
      rw [hz]
      exact ⟨{ r with vans := a, load := b, close := c, nodes := d, home := e }, vs, vr, rfl, ⟨_, _, _, _, _, _, e1, e2⟩, hb.mono hB, Keep.of_below hb, fun h => by cases h⟩
    · have hz : rdDepot r a b c d e = ({ vans := a, load := b, close := c, nodes := d, home := e, stops := [], roads := [], head := true }, 0) := by unfold rdDepot; rw [if_neg (by simp [hh]), if_pos hok]
      rw [hz]
      refine ⟨{ r with vans := a, load := b, close := c, nodes := d, home := e }, vs, vr, rfl, ⟨_, _, _, _, _, _, e1, e2⟩, hb.mono hB, Keep.of_below hb, fun _ => ⟨rfl, ?_, ?_⟩⟩
      · have := own_below hs hb; rw [hr0] at this; exact this
      · have := own_below hr hb; rw [hr0] at this; exact this
  · obtain ⟨a, b, c, d, e, hv⟩ := vals5 hl
    have hh : r.head = true := by simpa using h2
    obtain rfl : N = 6 := by omega
    have hy : rdVals r [83] (fs.map numV) = rdStop r a b c d e := by rw [hv]; rfl
    rw [hy]
    have hlen := hg.fine.1
    by_cases h7 : r.stops.length = 7
    · refine (taken_S_many g cap B r vs vr fs a b c d e w hw hv h3 hB hs hr h7).mono fun q w' h => left_good h ?_ ?_
      · unfold tkStop rdStop; rw [if_pos h7, if_neg (by simp [hh]), if_pos (by omega)]
      · unfold rdStop; rw [if_neg (by simp [hh]), if_pos (by omega)]; intro h'; cases h'
    · refine (taken_S_in g cap B r vs vr fs a b c d e w hw hv h3 hB ⟨hg.lo, hg.hi⟩ hs hr (by omega)).mono fun q w' h => left_good h ?_ ?_
      · exact (tkS_eq hh (by omega)).1
      · exact (tkS_eq hh (by omega)).2
  · obtain ⟨a, b, c, hv⟩ := vals3 hl
    have hh : r.head = true := by simpa using h2
    obtain rfl : N = 4 := by omega
    have hy : rdVals r [82] (fs.map numV) = rdRoad r a b c := by rw [hv]; rfl
    rw [hy]
    have hlen := hg.fine.2
    by_cases h7 : r.roads.length = 40
    · refine (taken_R_many g cap B r vs vr fs a b c w hw hv h3 hB hs hr h7).mono fun q w' h => left_good h ?_ ?_
      · unfold tkRoad rdRoad; rw [if_pos h7, if_neg (by simp [hh]), if_pos (by omega)]
      · unfold rdRoad; rw [if_neg (by simp [hh]), if_pos (by omega)]; intro h'; cases h'
    · refine (taken_R_in g cap B r vs vr fs a b c w hw hv h3 hB ⟨hg.lo, hg.hi⟩ hs hr (by omega)).mono fun q w' h => left_good h ?_ ?_
      · exact (tkR_eq hh (by omega)).1
      · exact (tkR_eq hh (by omega)).2

/- a line that is not of the form -/
theorem not_formed {r : Rd} {f : List UInt8} {fs : List (List UInt8)} {l : List UInt8} (hl : flds l = f :: fs) (h : formedS f fs (!r.head) = false) : (rdLine r l).2 = 2 := by
  unfold rdLine; rw [hl]
  show (if fs.all numOk = true then rdVals r f (fs.map numV) else (r, 2)).2 = 2
  split
  · rename_i hok
    rcases letters f with rfl | rfl | rfl | ⟨e1, e2, e3⟩
    · by_cases h5 : fs.length = 5
      · have hh : r.head = true := by
          cases hh : r.head
          · simp [formedS, needS, h5, hh, hok] at h
          · rfl
        obtain ⟨a, b, c, d, e, hv⟩ := vals5 h5
        rw [hv]; show (rdDepot r a b c d e).2 = 2; unfold rdDepot; rw [if_pos hh]
      · unfold rdVals; rw [if_pos rfl]; split
        · rename_i hv; exact absurd (by have := congrArg List.length hv; simpa using this) h5
        · rfl
    · by_cases h5 : fs.length = 5
      · have hh : r.head = false := by
          cases hh : r.head
          · rfl
          · simp [formedS, needS, h5, hh, hok] at h
        obtain ⟨a, b, c, d, e, hv⟩ := vals5 h5
        rw [hv]; show (rdStop r a b c d e).2 = 2; unfold rdStop; rw [if_pos hh]
      · unfold rdVals; rw [if_neg (by decide), if_pos rfl]; split
        · rename_i hv; exact absurd (by have := congrArg List.length hv; simpa using this) h5
        · rfl
    · by_cases h5 : fs.length = 3
      · have hh : r.head = false := by
          cases hh : r.head
          · rfl
          · simp [formedS, needS, h5, hh, hok] at h
        obtain ⟨a, b, c, hv⟩ := vals3 h5
        rw [hv]; show (rdRoad r a b c).2 = 2; unfold rdRoad; rw [if_pos hh]
      · unfold rdVals; rw [if_neg (by decide), if_neg (by decide), if_pos rfl]; split
        · rename_i hv; exact absurd (by have := congrArg List.length hv; simpa using this) h5
        · rfl
    · unfold rdVals; rw [if_neg e1, if_neg e2, if_neg e3]
  · rfl
theorem is_formed {r : Rd} {f : List UInt8} {fs : List (List UInt8)} {l : List UInt8} (hl : flds l = f :: fs) (h : formedS f fs (!r.head) = true) : rdLine r l = rdVals r f (fs.map numV) := by
  unfold rdLine; rw [hl]; show (if fs.all numOk = true then rdVals r f (fs.map numV) else (r, 2)) = _; rw [if_pos (formed_yes h).2.2]
end Go.Proofs.YtebinaopncclgaaGreatDoor
