/- Walks: the net of ways. -/
import Derived.Test.YtebinaopncclgabBase
import Derived.Test.YtebinaopncclgabFrame
namespace Go.Proofs.Ytebinaopncclgab
open Go.RowKit Go.IntWalk

/- the net in memory: N nodes, the length F a b from node a to node b -/
def NetAt (w : World) (nb N : Nat) (F : Nat → Nat → Int) : Prop :=
  (∃ cs, w.heap[nb]? = some (.cells cs 70 (0, 0))) ∧ w.cell? ⟨nb, 0, none⟩ = some (.int .i64 N) ∧ N ≤ 12 ∧ ∀ a b, a < N → b < N → w.cell? ⟨nb, 1 + a * 12 + b, none⟩ = some (.int .i64 (F a b))
/- nothing but the net has turned -/
structure Only (nb : Nat) (w w' : World) : Prop where
  os : w'.os = w.os
  tape : w'.tape = w.tape
  output : w'.output = w.output
  size : w'.heap.size = w.heap.size
  block : ∀ k, k ≠ nb → w'.heap[k]? = w.heap[k]?
theorem Only.refl (nb : Nat) (w : World) : Only nb w w := ⟨rfl, rfl, rfl, rfl, fun _ _ => rfl⟩
theorem Only.trans {nb : Nat} {a b c : World} (h : Only nb a b) (k : Only nb b c) : Only nb a c := ⟨k.os.trans h.os, k.tape.trans h.tape, k.output.trans h.output, k.size.trans h.size, fun i hi => (k.block i hi).trans (h.block i hi)⟩
theorem Only.drew {nb : Nat} {a b : World} (h : Only nb a b) : Only nb a b.drew := ⟨h.os, h.tape, h.output, h.size, h.block⟩
theorem Only.setCell {nb : Nat} {a b : World} (h : Only nb a b) (o : Nat) (u : Value) : Only nb a (b.setCell ⟨nb, o, none⟩ u) :=
  h.trans ⟨rfl, rfl, rfl, by simp [World.setCell], fun k hk => Below.heap_setCell _ _ _ _ hk⟩
theorem Only.below {nb B : Nat} {w w' : World} (h : Only nb w w') (hB : B ≤ nb) : Below B w w' := ⟨h.os, h.tape, h.output, by rw [h.size]; exact Nat.le_refl _, fun k hk => h.block k (by omega)⟩
theorem net_lt {w : World} {nb N : Nat} {F : Nat → Nat → Int} (h : NetAt w nb N F) : nb < w.heap.size := by obtain ⟨cs, hc⟩ := h.1; exact (Array.getElem?_eq_some_iff.1 hc).1
theorem net_frozen {w : World} {nb N : Nat} {F : Nat → Nat → Int} (h : NetAt w nb N F) (o : Nat) : w.frozen? ⟨nb, o, none⟩ = false := by obtain ⟨cs, hc⟩ := h.1; exact frozen_of_row w nb o _ _ hc
def upd (F : Nat → Nat → Int) (a b : Nat) (v : Int) : Nat → Nat → Int := fun x y => if x = a ∧ y = b then v else F x y
theorem net_cells {w : World} {nb : Nat} {cs : Array Value} {t : TypeId} (hc : w.heap[nb]? = some (.cells cs t (0, 0))) {o p : Nat} {u u' : Value} (ho : w.cell? ⟨nb, o, none⟩ = some u') (v : Value) (hp : w.cell? ⟨nb, p, none⟩ = some u) :
    (w.setCell ⟨nb, o, none⟩ v).cell? ⟨nb, p, none⟩ = some (if p = o then v else u) := by
  rw [cell_of_row _ nb p _ _ _ (heap_setCell_same w nb o cs t v hc)]
  rw [cell_of_row w nb p _ _ _ hc] at hp
  rw [cell_of_row w nb o _ _ _ hc] at ho
  have hol : o < cs.size := (Array.getElem?_eq_some_iff.1 ho).1
  rw [Array.getElem?_setIfInBounds]
  by_cases h : o = p
  · subst h; simp [hol]
  · rw [if_neg h, hp, if_neg (fun e => h e.symm)]
theorem net_put {w : World} {nb N a b : Nat} {F : Nat → Nat → Int} (h : NetAt w nb N F) (ha : a < N) (hb : b < N) (v : Int) : NetAt (w.setCell ⟨nb, 1 + a * 12 + b, none⟩ (.int .i64 v)) nb N (upd F a b v) := by
  obtain ⟨⟨cs, hc⟩, h0, hN, hF⟩ := h
  refine ⟨⟨_, heap_setCell_same w nb _ _ _ _ hc⟩, ?_, hN, fun x y hx hy => ?_⟩
  · rw [net_cells hc (hF a b ha hb) _ h0, if_neg (by omega)]
  · rw [net_cells hc (hF a b ha hb) _ (hF x y hx hy)]
    unfold upd
    by_cases e : x = a ∧ y = b
    · obtain ⟨rfl, rfl⟩ := e; simp
    · rw [if_neg e, if_neg (by omega)]
theorem net_congr {w : World} {nb N : Nat} {F G : Nat → Nat → Int} (h : NetAt w nb N F) (hg : ∀ a b, a < N → b < N → F a b = G a b) : NetAt w nb N G := ⟨h.1, h.2.1, h.2.2.1, fun a b ha hb => by rw [h.2.2.2 a b ha hb, hg a b ha hb]⟩
theorem net_other {w w' : World} {nb N : Nat} {F : Nat → Nat → Int} (h : NetAt w nb N F) (hb : w'.heap[nb]? = w.heap[nb]?) : NetAt w' nb N F := by
  obtain ⟨⟨cs, hc⟩, h0, hN, hF⟩ := h
  refine ⟨⟨cs, by rw [hb]; exact hc⟩, ?_, hN, fun x y hx hy => ?_⟩
  · rw [World.cell?_of_block (a := ⟨nb, 0, none⟩) hb]; exact h0
  · rw [World.cell?_of_block (a := ⟨nb, 1 + x * 12 + y, none⟩) hb]; exact hF x y hx hy

theorem hide' {p : Prop} (h : p) : Hid p := h
def shortS (x v : Int) : Int := if x = -1 ∨ v < x then v else x
set_option maxHeartbeats 1000000 in
theorem shorten_any (nb N a b : Nat) (F : Nat → Nat → Int) (v : Int) (w : World) (h : NetAt w nb N F) (ha : a < N) (hb : b < N) :
    Calls Try.prog 25 #[.pointer (some ⟨nb, 0, none⟩), .int .i64 a, .int .i64 b, .int .i64 v] w fun e w' => e = .returned (.tuple #[]) ∧ NetAt w' nb N (upd F a b (shortS (F a b) v)) ∧ Only nb w w' := by
  have hc := h.2.2.2 a b ha hb
  have hf := net_frozen h (1 + a * 12 + b)
  have hN := h.2.2.1
  have H : Hid (NetAt w nb N F) := h
  have ha' : a < 12 := by omega
  have hb' : b < 12 := by omega
  clear h
  go_enter Try.func25, Try.ntmps25
  by_cases h1 : F a b = -1
  · have hs : shortS (F a b) v = v := by unfold shortS; rw [if_pos (Or.inl h1)]
    have HS := hide' hs
    have e1 : (F a b == -1) = true := by simp [h1]
    have H1 := hide' h1
    clear h1 hs
    go_wp2
    go_end0
    rw [HS.out]
    exact ⟨rfl, net_put H.out ha hb v, (Only.refl _ _).setCell _ _⟩
  · have e1 : (F a b == -1) = false := by simp [h1]
    by_cases h2 : v < F a b
    · have hs : shortS (F a b) v = v := by unfold shortS; rw [if_pos (Or.inr h2)]
      have HS := hide' hs
      clear hs
      go_wp2
      go_end0
      rw [HS.out]
      exact ⟨rfl, net_put H.out ha hb v, (Only.refl _ _).setCell _ _⟩
    · have hs : shortS (F a b) v = F a b := by unfold shortS; rw [if_neg (by omega)]
      have HS := hide' hs
      clear hs
      go_wp2
      go_end0
      rw [HS.out]
      refine ⟨rfl, net_congr H.out (fun x y _ _ => ?_), Only.refl _ _⟩
      unfold upd; split
      · rename_i e; rw [e.1, e.2]
      · rfl

/- clear -/
def diagS (a b : Nat) : Int := if a = b then 0 else -1
set_option maxHeartbeats 1000000 in
theorem clear_any (nb N : Nat) (F : Nat → Nat → Int) (w : World) (h : NetAt w nb N F) :
    Calls Try.prog 24 #[.pointer (some ⟨nb, 0, none⟩)] w fun e w' => e = .returned (.tuple #[]) ∧ NetAt w' nb N diagS ∧ Only nb w w' := by
  have hN := h.2.2.1
  have H : Hid (NetAt w nb N F) := h
  clear h
  go_enter Try.func24, Try.ntmps24
  go_wp2
  go_loopw [2, 3] (fun i j wr => ∃ a : Nat, i = .int .i64 a ∧ a ≤ N ∧ Hid (∃ G, NetAt wr nb N G ∧ ∀ x y, x < a → y < N → G x y = diagS x y) ∧ Hid (Only nb w wr)) (fun i _ _ => N - (intOf i).toNat)
  case atStart => exact ⟨0, rfl, by omega, ⟨F, H.out, fun x y hx => by omega⟩, Only.refl _ _⟩
  case round =>
    obtain ⟨a, rfl, ha, HG, HO⟩ := hrel
    obtain ⟨G, hG, hD⟩ := HG.out
    have c0 := hG.2.1
    by_cases hlt : a < N
    · have HG' := hide' hG
      have HD := hide' hD
      clear hG hD HG
      go_wp2
      go_loopw [3] (fun j wx => ∃ b : Nat, j = .int .i64 b ∧ b ≤ N ∧ Hid (∃ G', NetAt wx nb N G' ∧ (∀ x y, x < a → y < N → G' x y = diagS x y) ∧ ∀ y, y < b → G' a y = -1) ∧ Hid (Only nb w wx)) (fun j _ => N - (intOf j).toNat)
      case atStart => exact ⟨0, rfl, by omega, ⟨G, HG'.out, HD.out, fun y hy => by omega⟩, HO⟩
      case round =>
        clear HG' HD HO c0
        obtain ⟨b, rfl, hb, HG, HO⟩ := hrel
        obtain ⟨G', hG, hD, hR⟩ := HG.out
        have c0 := hG.2.1
        have ha12 : a < 12 := by omega
        by_cases hlb : b < N
        · have hb12 : b < 12 := by omega
          have hc := hG.2.2.2 a b hlt hlb
          have hf := net_frozen hG (1 + a * 12 + b)
          have HG' := hide' hG
          have HD := hide' hD
          have HR := hide' hR
          clear hG hD hR HG
          go_wp2
          go_roundw
          case rel =>
            refine ⟨b + 1, by go_num, by omega, ⟨upd G' a b (-1), net_put HG'.out hlt hlb _, fun x y hx hy => ?_, fun y hy => ?_⟩, HO.out.setCell _ _⟩
            · unfold upd; rw [if_neg (by omega)]; exact HD.out x y hx hy
            · unfold upd; by_cases e : y = b
              · rw [if_pos ⟨rfl, e⟩]
              · rw [if_neg (by omega)]; exact HR.out y (by omega)
          case measure => simp [intOf]; omega
        · have hc := hG.2.2.2 a a hlt hlt
          have hf := net_frozen hG (1 + a * 12 + a)
          have HG' := hide' hG
          have HD := hide' hD
          have HR := hide' hR
          clear hG hD hR HG
          go_wp2
          go_roundw
          case rel =>
            refine ⟨a + 1, by go_num, by omega, ⟨upd G' a a 0, net_put HG'.out hlt hlt _, fun x y hx hy => ?_⟩, HO.out.setCell _ _⟩
            unfold upd
            by_cases e : x = a ∧ y = a
            · rw [if_pos e, e.1, e.2]; simp [diagS]
            · rw [if_neg e]
              by_cases ex : x = a
              · subst ex; rw [HR.out y (by omega)]; unfold diagS; rw [if_neg (by omega)]
              · exact HD.out x y (by omega) hy
          case measure => simp [intOf]; omega
    · have HG' := hide' hG
      have HD := hide' hD
      clear hG hD HG
      go_wp2
      go_end0
      exact ⟨rfl, net_congr HG'.out (fun x y hx hy => HD.out x y (by omega) hy), HO.out⟩
end Go.Proofs.Ytebinaopncclgab
