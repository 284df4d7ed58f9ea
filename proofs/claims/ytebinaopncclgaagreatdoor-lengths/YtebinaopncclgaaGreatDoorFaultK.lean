/- Walks: an instance that may be has no fault; what its lists are. -/
import Derived.Test.YtebinaopncclgaaGreatDoorFaultZ
import Derived.Test.YtebinaopncclgaaGreatDoorPlay
import Derived.Test.YtebinaopncclgaaGreatDoorPlainG
namespace Go.Proofs.YtebinaopncclgaaGreatDoor
open Go.RowKit Go.IntWalk

theorem some_of {w : World} {B n : Nat} {ao : Option Addr} (h : ∀ a, ao = some a → ∃ g, a = ⟨g, 0, none⟩ ∧ B ≤ g ∧ g < w.heap.size) (h0 : ao = none → n = 0) (hn : 0 < n) : ∃ g, ao = some ⟨g, 0, none⟩ ∧ g < w.heap.size := by
  cases ao with
  | none => have := h0 rfl; omega
  | some a => obtain ⟨g, rfl, _, hg⟩ := h a rfl; exact ⟨g, rfl, hg⟩
theorem cellF_at {ss : List (List Int)} {i : Nat} {s : List Int} (hi : i < ss.length) (h : ss[i] = s) (j : Nat) : cellF ss i j = s.getD j 0 := by
  unfold cellF; rw [show ss.getD i [] = ss[i] by simp [hi], h]
theorem ok_fault {r : Rd} (h : RdOk r) : faultS r.vans r.load r.close r.nodes r.home (cellF r.stops) (cellF r.roads) r.stops.length r.roads.length = 0 := by
  have h1 := h.nstops
  have h2 := h.nroads
  refine fault_none (by omega) h.head ?_ ?_
  · unfold allN
    rw [List.all_eq_true]
    intro i hi
    have hi' : i < r.stops.length := by simpa using hi
    obtain ⟨a, b, c, d, e, hs, hk⟩ := h.stops _ (List.getElem_mem hi')
    unfold sOk
    rw [cellF_at hi' hs, cellF_at hi' hs, cellF_at hi' hs, cellF_at hi' hs, cellF_at hi' hs]; exact hk
  · unfold allN
    rw [List.all_eq_true]
    intro i hi
    have hi' : i < r.roads.length := by simpa using hi
    obtain ⟨a, b, c, hs, hk⟩ := h.roads _ (List.getElem_mem hi')
    unfold rOk
    rw [cellF_at hi' hs, cellF_at hi' hs, cellF_at hi' hs]; exact hk
theorem RdOk.shape {r : Rd} (h : RdOk r) : RdShape r := ⟨fun s hs => (h.nice.stops s hs).1, fun s hs => (h.nice.roads s hs).1⟩
theorem fault_ok (B B' : Nat) (r : Rd) (vs vr : Value) (w : World) (hn : RdOk r) (hs : w.ownsRow B 50 5 vs r.stops.length (ints r.stops.flatten)) (hr : w.ownsRow B' 52 3 vr r.roads.length (ints r.roads.flatten)) :
    Calls Tryz.prog 111 #[inst r vs vr] w fun e w' => e = .returned (.int .i64 0) ∧ Below w.heap.size w w' := by
  obtain ⟨aos, caps, rfl, hl⟩ := lies_own hs hn.shape.stops
  obtain ⟨aor, capr, rfl, hl'⟩ := lies_own hr hn.shape.roads
  have h := fault_any r.vans r.load r.close r.nodes r.home (cellF r.stops) (cellF r.roads) aos aor r.stops.length r.roads.length caps capr w (by have := hn.nstops; omega) (by have := hn.nroads; omega) hl hl'
  rw [ok_fault hn] at h
  exact h

/- what Parse takes may be -/
structure RdMay (r : Rd) : Prop where
  none : r.head = false → r = Rd0
  ok : r.head = true → RdOk r
theorem may0 : RdMay Rd0 := ⟨fun _ => rfl, fun h => by cases h⟩
theorem rdVals_may {r : Rd} (h : RdMay r) (f : List UInt8) (vs : List Int) : RdMay (rdVals r f vs).1 := by
  have hd : ∀ a b c d e, RdMay (rdDepot r a b c d e).1 := by
    intro a b c d e; unfold rdDepot; split
    · exact h
    · split
      · rename_i hh; exact ⟨fun h' => (by cases h'), fun _ => ⟨hh, by simp, by simp, by simp, by simp, rfl⟩⟩
      · exact h
  have hst : ∀ a b c d e, RdMay (rdStop r a b c d e).1 := by
    intro a b c d e; unfold rdStop; split
    · exact h
    · split
      · exact h
      · split
        · rename_i h1 h2 h3
          have hh : r.head = true := by simpa using h1
          have ho := h.ok hh
          refine ⟨fun h' => absurd h' h1, fun _ => ⟨ho.head, fun s hs => ?_, ho.roads, by simp; omega, ho.nroads, hh⟩⟩
          simp at hs
          rcases hs with hs | rfl
          · exact ho.stops s hs
          · exact ⟨a, b, c, d, e, rfl, h3⟩
        · exact h
  have hrd : ∀ a b c, RdMay (rdRoad r a b c).1 := by
    intro a b c; unfold rdRoad; split
    · exact h
    · split
      · exact h
      · split
        · rename_i h1 h2 h3
          have hh : r.head = true := by simpa using h1
          have ho := h.ok hh
          refine ⟨fun h' => absurd h' h1, fun _ => ⟨ho.head, ho.stops, fun s hs => ?_, ho.nstops, by simp; omega, hh⟩⟩
          simp at hs
          rcases hs with hs | rfl
          · exact ho.roads s hs
          · exact ⟨a, b, c, rfl, h3⟩
        · exact h
  unfold rdVals
  split
  · split
    · exact hd _ _ _ _ _
    · exact h
  · split
    · split
      · exact hst _ _ _ _ _
      · exact h
    · split
      · split
        · exact hrd _ _ _
        · exact h
      · exact h
theorem rdGo_may (ls : List (List UInt8)) : ∀ {r : Rd}, RdMay r → ∀ i, RdMay (rdGo r i ls).1 := by
  induction ls with
  | nil => intro r h i; exact h
  | cons l t ih =>
    intro r h i
    unfold rdGo
    split
    · refine ih ?_ _
      unfold rdLine
      split
      · exact h
      · split
        · exact rdVals_may h _ _
        · exact h
    · exact may0
/- where Parse tells no error, what it takes is an instance -/
theorem parse_rdok {l : List UInt8} (h : (parseS l).2.2 = 0) : RdOk (parseS l).1 := by
  have hm := rdGo_may (splitB 10 l) may0 0
  unfold parseS at h ⊢
  split at h
  · cases h
  · rename_i h1
    rw [if_neg h1]
    split at h
    · rename_i h2
      rw [if_pos h2]
      split at h
      · rename_i h3
        rw [if_pos h3]; exact hm.ok h3
      · cases h
    · rename_i h2
      exact absurd h h2
end Go.Proofs.YtebinaopncclgaaGreatDoor
