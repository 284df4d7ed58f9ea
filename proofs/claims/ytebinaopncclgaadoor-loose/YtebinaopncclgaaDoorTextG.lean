/- Walks: an instance's text, in whatever style. -/
import Derived.Test.YtebinaopncclgaaDoorLineG
import Derived.Test.YtebinaopncclgaaDoorParse
import Derived.Test.YtebinaopncclgaaDoorPlainF
import Derived.Deep.RegionHeld3
namespace Go.Proofs.YtebinaopncclgaaDoor
open Go.RowKit Go.IntWalk

theorem cells5 {f : Nat → Option Value} {a b c d e : Int} (h0 : f 0 = some (.int .i64 a)) (h1 : f 1 = some (.int .i64 b)) (h2 : f 2 = some (.int .i64 c)) (h3 : f 3 = some (.int .i64 d)) (h4 : f 4 = some (.int .i64 e)) : ∀ i, i < 5 → f i = some (.int .i64 ([a, b, c, d, e].getD i 0)) := by
  intro i hi
  match i, hi with
  | 0, _ => exact h0
  | 1, _ => exact h1
  | 2, _ => exact h2
  | 3, _ => exact h3
  | 4, _ => exact h4
theorem cells3 {f : Nat → Option Value} {a b c : Int} (h0 : f 0 = some (.int .i64 a)) (h1 : f 1 = some (.int .i64 b)) (h2 : f 2 = some (.int .i64 c)) : ∀ i, i < 3 → f i = some (.int .i64 ([a, b, c].getD i 0)) := by
  intro i hi
  match i, hi with
  | 0, _ => exact h0
  | 1, _ => exact h1
  | 2, _ => exact h2

theorem some_of {w : World} {B n : Nat} {ao : Option Addr} (h : ∀ a, ao = some a → ∃ g, a = ⟨g, 0, none⟩ ∧ B ≤ g ∧ g < w.heap.size) (h0 : ao = none → n = 0) (hn : 0 < n) : ∃ g, ao = some ⟨g, 0, none⟩ ∧ g < w.heap.size := by
  cases ao with
  | none => have := h0 rfl; omega
  | some a => obtain ⟨g, rfl, _, hg⟩ := h a rfl; exact ⟨g, rfl, hg⟩

theorem its_road {s : Sty} {r : Rd} {k : Nat} (h5 : s.b5 = true) (hk : k < r.stops.length) (hr : k < r.roads.length) : itemsL s (itsK s r (k + 1)) = itemsL s (itsK s r k) ++ (lineG s [82] r.roads[k] ++ lineG s [83] r.stops[k]) := by
  have e : itsK s r (k + 1) = itsK s r k ++ [(82, r.roads.getD k [])] ++ [(83, r.stops.getD k [])] := by
    show _ ++ (if _ then _ else _) ++ _ = _
    rw [if_pos ⟨h5, hr⟩]
  rw [e, itemsL_append, itemsL_append, itemsL_one, itemsL_one]; simp [itemL, hk, hr]
theorem its_none {s : Sty} {r : Rd} {k : Nat} (h : ¬ (s.b5 = true ∧ k < r.roads.length)) (hk : k < r.stops.length) : itemsL s (itsK s r (k + 1)) = itemsL s (itsK s r k) ++ lineG s [83] r.stops[k] := by
  have e : itsK s r (k + 1) = itsK s r k ++ [] ++ [(83, r.stops.getD k [])] := by
    show _ ++ (if _ then _ else _) ++ _ = _
    rw [if_neg h]
  rw [e, itemsL_append, itemsL_append, itemsL_one, itemsL_nil]; simp [itemL, hk]
theorem used_on {s : Sty} {r : Rd} {k : Nat} (h5 : s.b5 = true) (hr : k < r.roads.length) : used s r k = k ∧ used s r (k + 1) = k + 1 := by
  unfold used; rw [if_pos h5, if_pos h5]; omega
theorem used_full {s : Sty} {r : Rd} {k : Nat} (h5 : s.b5 = true) (hr : ¬ k < r.roads.length) : used s r k = r.roads.length ∧ used s r (k + 1) = r.roads.length := by
  unfold used; rw [if_pos h5, if_pos h5]; omega
theorem used_off {s : Sty} {r : Rd} {k : Nat} (h5 : s.b5 = false) : used s r k = 0 := by unfold used; rw [if_neg (by simp [h5])]
theorem used_le (s : Sty) (r : Rd) (k : Nat) : used s r k ≤ r.roads.length := by unfold used; split <;> omega
def restL (s : Sty) (r : Rd) (u k : Nat) : List UInt8 := itemsL s (((r.roads.take k).drop u).map fun z => (82, z))
theorem rest_snoc {s : Sty} {r : Rd} {u k : Nat} (hu : u ≤ k) (hk : k < r.roads.length) : restL s r u (k + 1) = restL s r u k ++ lineG s [82] r.roads[k] := by
  unfold restL
  rw [List.take_succ_eq_append_getElem hk, List.drop_append_of_le_length (by simp; omega), List.map_append, itemsL_append]
  simp [itemsL, itemL]
theorem rest_nil (s : Sty) (r : Rd) (u : Nat) : restL s r u u = [] := by
  unfold restL; rw [List.drop_eq_nil_of_le (by simp; omega)]; rfl

set_option maxRecDepth 100000 in
set_option maxHeartbeats 4000000 in
theorem textG_any (B B' : Nat) (st : Int) (r : Rd) (vs vr : Value) (w : World) (hn : RdNice r) (hs : w.ownsRow B 37 5 vs r.stops.length (ints r.stops.flatten)) (hr : w.ownsRow B' 39 3 vr r.roads.length (ints r.roads.flatten)) :
    Calls Tryd.prog 5 #[inst r vs vr, .int .i64 st] w fun e w' => e = .returned (.string ⟨(textG (sty st) r).toArray⟩) ∧ Below w.heap.size w w' := by
  have hns := hn.nstops
  have hnr := hn.nroads
  obtain ⟨aos, caps, rfl, has, hsn⟩ := own_val hs
  obtain ⟨aor, capr, rfl, har, hrn⟩ := own_val hr
  have HS := hide hs
  have HR := hide hr
  have HN := hide hn
  have HAS := hide has
  have HAR := hide har
  have HSN := hide hsn
  have HRN := hide hrn
  obtain ⟨b5, hb5⟩ : ∃ b5, (bits BinOp.and IntKind.i64 (st / 32) 1 == 1) = b5 := ⟨_, rfl⟩
  have H5 : Hid ((sty st).b5 = b5) := hb5
  clear hs hr hn has hsn har hrn
  unfold inst
  go_enter Tryd.func5, Tryd.ntmps5
  go_wp2_with fail
  refine (lineG_any _ 5 _ st [68] [r.vans, r.load, r.close, r.nodes, r.home] _ rfl (by omega) (by simp) (by simp) HN.out.nums (cells5 (by simp [go_sem]) (by simp [go_sem]) (by simp [go_sem]) (by simp [go_sem]) (by simp [go_sem]))).mono ?_
  rintro e1 w1 ⟨rfl, hb1⟩
  obtain ⟨bx, hbx⟩ : ∃ bx, bx = (w.alloc (.cells #[.int .i64 r.vans, .int .i64 r.load, .int .i64 r.close, .int .i64 r.nodes, .int .i64 r.home, .slice aos r.stops.length caps, .slice aor r.roads.length capr] 25)) := ⟨_, rfl⟩
  have hbw : Below (w.heap.size + 1) bx w1 := by
    rw [hbx]
    exact ((Below.refl _ _).alloc (by simp) _).trans (hb1.mono (by simp))
  have hw1 : Below w.heap.size w w1 := (below2 w _ _).trans (hb1.mono (by simp; omega))
  have hbs : w.heap.size + 1 ≤ bx.heap.size := by rw [hbx]; simp
  have hb5' : bx.cell? ⟨w.heap.size, 5, none⟩ = some (.slice aos r.stops.length caps) := by rw [hbx]; simp [go_sem]
  have hb6 : bx.cell? ⟨w.heap.size, 6, none⟩ = some (.slice aor r.roads.length capr) := by rw [hbx]; simp [go_sem]
  have HB5 := hide hb5'
  have HB6 := hide hb6
  have hL : Hid ((headG (sty st) r).length ≤ 100) := by show _ ≤ _; have := lineG_length (sty st) [68] [r.vans, r.load, r.close, r.nodes, r.home]; simp at this; unfold headG; omega
  have hL' : (lineG (sty st) [68] [r.vans, r.load, r.close, r.nodes, r.home]).length ≤ 100 := hL.out
  clear hb1 hbx hb5' hb6
  have HW1 := hide hw1
  have HBW := hide hbw
  clear hw1 hbw
  go_wp2_with fail
  go_loopw [5, 6, 7] (fun s q i wr => ∃ (k : Nat) (t : List UInt8), q = .int .i64 (used (sty st) r k : Nat) ∧ i = .int .i64 k ∧ s = .string ⟨t.toArray⟩ ∧ k ≤ r.stops.length ∧ t.length ≤ 100 + 100 * k ∧ Hid (t = headG (sty st) r ++ itemsL (sty st) (itsK (sty st) r k)) ∧ Hid (Below w.heap.size w wr) ∧ Hid (Below (w.heap.size + 1) bx wr)) (fun _ _ i _ => r.stops.length - (intOf i).toNat)
  case atStart => exact ⟨0, _, by unfold used; simp, rfl, rfl, by omega, by omega, by show _ = _; simp [itsK, itemsL, headG], HW1, HBW⟩
  case round =>
    clear HW1 HBW
    obtain ⟨k, t, rfl, rfl, rfl, hk, ht, HT, HW, HBW⟩ := hrel
    have d5 : wr.cell? ⟨w.heap.size, 5, none⟩ = some (.slice aos r.stops.length caps) := (HBW.out.cell (by simp)).trans HB5.out
    have d6 : wr.cell? ⟨w.heap.size, 6, none⟩ = some (.slice aor r.roads.length capr) := (HBW.out.cell (by simp)).trans HB6.out
    have hsz : w.heap.size + 1 ≤ wr.heap.size := Nat.le_trans hbs HBW.out.size
    by_cases hlt : k < r.stops.length
    · obtain ⟨g, rfl, hgl⟩ := some_of HAS.out HSN.out (by omega)
      obtain ⟨a, b, c, d, e, hab⟩ := five (HN.out.stops _ (List.getElem_mem hlt)).1
      have hsm := (HN.out.stops _ (List.getElem_mem hlt)).2
      have hcl : ∀ j z, j < 5 → r.stops[k][j]? = some z → wr.cell? ⟨g, k * 5 + j, none⟩ = some (.int .i64 z) := by
        intro j z hj hz
        rw [HW.out.cell (by exact hgl), HS.out.cellAt (k * 5 + j) (by omega)]
        exact flat_ints (fun s hs => (HN.out.stops s hs).1) hlt hj hz
      have HAB := hide hab
      rw [hab] at hsm hcl
      clear hab
      have x0 : wr.cell? ⟨g, k * 5, none⟩ = some (.int .i64 a) := hcl 0 a (by omega) rfl
      have x1 : wr.cell? ⟨g, k * 5 + 1, none⟩ = some (.int .i64 b) := hcl 1 b (by omega) rfl
      have x2 : wr.cell? ⟨g, k * 5 + 2, none⟩ = some (.int .i64 c) := hcl 2 c (by omega) rfl
      have x3 : wr.cell? ⟨g, k * 5 + 3, none⟩ = some (.int .i64 d) := hcl 3 d (by omega) rfl
      have x4 : wr.cell? ⟨g, k * 5 + 4, none⟩ = some (.int .i64 e) := hcl 4 e (by omega) rfl
      have HSM := hide hsm
      clear hcl hsm
      cases b5
      · have HT2 : Hid (itemsL (sty st) (itsK (sty st) r (k + 1)) = itemsL (sty st) (itsK (sty st) r k) ++ lineG (sty st) [83] [a, b, c, d, e]) := by
          show _ = _; rw [its_none (by rw [H5.out]; simp) hlt, HAB.out]
        have HU : Hid (used (sty st) r k = used (sty st) r (k + 1)) := by show _ = _; rw [used_off H5.out, used_off H5.out]
        clear d6
        go_wp2_with fail
        refine (lineG_any _ 5 _ st [83] [a, b, c, d, e] _ rfl (by omega) (by simp) (by simp) HSM.out (cells5 (by simp [go_sem]) (by simp [go_sem]) (by simp [go_sem]) (by simp [go_sem]) (by simp [go_sem]))).mono ?_
        rintro e2 w3 ⟨rfl, hb3⟩
        have hll : (lineG (sty st) [83] [a, b, c, d, e]).length ≤ 50 := by have := lineG_length (sty st) [83] [a, b, c, d, e]; simp at this; omega
        have HW3 : Hid (Below wr.heap.size wr w3) := (below2 wr _ _).trans (hb3.mono (by simp; omega))
        clear hb3 x0 x1 x2 x3 x4 d5
        go_wp2
        go_roundw
        case rel =>
          refine ⟨k + 1, t ++ lineG (sty st) [83] [a, b, c, d, e], by rw [HU.out] <;> go_num, by go_num, ?_, by omega, ?_, ?_, ?_, ?_⟩
          · rw [← ba_append]
          · simp; omega
          · show _ = _; rw [HT2.out, HT.out]; simp
          · exact HW.out.trans (HW3.out.mono (by omega))
          · exact HBW.out.trans (HW3.out.mono (by omega))
        case measure => simp [intOf]; omega
      · by_cases hrd : k < r.roads.length
        · obtain ⟨gr, rfl, hgr⟩ := some_of HAR.out HRN.out (by omega)
          obtain ⟨ra, rb, rc, hrab⟩ := three (HN.out.roads _ (List.getElem_mem hrd)).1
          have hrsm := (HN.out.roads _ (List.getElem_mem hrd)).2
          have hrcl : ∀ j z, j < 3 → r.roads[k][j]? = some z → wr.cell? ⟨gr, k * 3 + j, none⟩ = some (.int .i64 z) := by
            intro j z hj hz
            rw [HW.out.cell (by exact hgr), HR.out.cellAt (k * 3 + j) (by omega)]
            exact flat_ints (fun s hs => (HN.out.roads s hs).1) hrd hj hz
          have HT2 : Hid (itemsL (sty st) (itsK (sty st) r (k + 1)) = itemsL (sty st) (itsK (sty st) r k) ++ (lineG (sty st) [82] [ra, rb, rc] ++ lineG (sty st) [83] [a, b, c, d, e])) := by
            show _ = _; rw [its_road H5.out hlt hrd, HAB.out, hrab]
          rw [hrab] at hrsm hrcl
          clear hrab
          have y0 : wr.cell? ⟨gr, k * 3, none⟩ = some (.int .i64 ra) := hrcl 0 ra (by omega) rfl
          have y1 : wr.cell? ⟨gr, k * 3 + 1, none⟩ = some (.int .i64 rb) := hrcl 1 rb (by omega) rfl
          have y2 : wr.cell? ⟨gr, k * 3 + 2, none⟩ = some (.int .i64 rc) := hrcl 2 rc (by omega) rfl
          have HRS := hide hrsm
          have HU : Hid (used (sty st) r (k + 1) = k + 1) := (used_on H5.out hrd).2
          rw [(used_on H5.out hrd).1]
          clear hrcl hrsm
          go_wp2_with fail
          go_region_held3 (fun w' => w'.cell? ⟨w.heap.size, 6, none⟩ = some (.slice (some ⟨gr, 0, none⟩) r.roads.length capr) ∧ w'.cell? ⟨gr, k * 3, none⟩ = some (.int .i64 ra) ∧ w'.cell? ⟨gr, k * 3 + 1, none⟩ = some (.int .i64 rb) ∧ w'.cell? ⟨gr, k * 3 + 2, none⟩ = some (.int .i64 rc)) (go_keep)
            (first
              | (go_at_call 10; refine (lineG_any _ 3 _ st [82] [ra, rb, rc] _ rfl (by omega) (by simp) (by simp) HRS.out (cells3 (by simp [go_sem]) (by simp [go_sem]) (by simp [go_sem]))).mono ?_; rintro e2 w2 ⟨rfl, hb2⟩; obtain ⟨hw2, _, _⟩ := box_facts (w := wr) hb2 rfl rfl rfl rfl; have HW2 := hide hw2; have k6 := (hw2.cell (p := ⟨w.heap.size, 6, none⟩) (by exact hsz)).trans d6; have k0 := (hw2.cell (p := ⟨gr, k * 3, none⟩) (by show gr < _; omega)).trans y0; have k1 := (hw2.cell (p := ⟨gr, k * 3 + 1, none⟩) (by show gr < _; omega)).trans y1; have k2 := (hw2.cell (p := ⟨gr, k * 3 + 2, none⟩) (by show gr < _; omega)).trans y2; clear hw2 hb2))
          have hlr : (lineG (sty st) [82] [ra, rb, rc]).length ≤ 40 := by have := lineG_length (sty st) [82] [ra, rb, rc]; simp at this; omega
          clear k6 k0 k1 k2 y0 y1 y2 d6
          replace d5 := (HW2.out.cell (p := ⟨w.heap.size, 5, none⟩) (by exact hsz)).trans d5
          replace x0 := (HW2.out.cell (p := ⟨g, k * 5, none⟩) (by show g < _; omega)).trans x0
          replace x1 := (HW2.out.cell (p := ⟨g, k * 5 + 1, none⟩) (by show g < _; omega)).trans x1
          replace x2 := (HW2.out.cell (p := ⟨g, k * 5 + 2, none⟩) (by show g < _; omega)).trans x2
          replace x3 := (HW2.out.cell (p := ⟨g, k * 5 + 3, none⟩) (by show g < _; omega)).trans x3
          replace x4 := (HW2.out.cell (p := ⟨g, k * 5 + 4, none⟩) (by show g < _; omega)).trans x4
          have hsz2 : wr.heap.size ≤ w2.heap.size := HW2.out.size
          go_wp2_with fail
          refine (lineG_any _ 5 _ st [83] [a, b, c, d, e] _ rfl (by omega) (by simp) (by simp) HSM.out (cells5 (by simp [go_sem]) (by simp [go_sem]) (by simp [go_sem]) (by simp [go_sem]) (by simp [go_sem]))).mono ?_
          rintro e2 w3 ⟨rfl, hb3⟩
          have hll : (lineG (sty st) [83] [a, b, c, d, e]).length ≤ 50 := by have := lineG_length (sty st) [83] [a, b, c, d, e]; simp at this; omega
          have HW3 : Hid (Below w2.heap.size w2 w3) := (below2 w2 _ _).trans (hb3.mono (by simp; omega))
          clear hb3 x0 x1 x2 x3 x4 d5
          go_wp2
          go_roundw
          case rel =>
            refine ⟨k + 1, t ++ lineG (sty st) [82] [ra, rb, rc] ++ lineG (sty st) [83] [a, b, c, d, e], by rw [HU.out] <;> go_num, by go_num, ?_, by omega, ?_, ?_, ?_, ?_⟩
            · rw [← ba_append, ← ba_append]
            · simp; omega
            · show _ = _; rw [HT2.out, HT.out]; simp
            · exact HW.out.trans ((HW2.out.trans (HW3.out.mono HW2.out.size)).mono (by omega))
            · exact HBW.out.trans ((HW2.out.trans (HW3.out.mono HW2.out.size)).mono (by omega))
          case measure => simp [intOf]; omega
        · have HT2 : Hid (itemsL (sty st) (itsK (sty st) r (k + 1)) = itemsL (sty st) (itsK (sty st) r k) ++ lineG (sty st) [83] [a, b, c, d, e]) := by
            show _ = _; rw [its_none (by rintro ⟨_, h⟩; exact hrd h) hlt, HAB.out]
          have HU : Hid (used (sty st) r (k + 1) = r.roads.length) := (used_full H5.out hrd).2
          rw [(used_full H5.out hrd).1]
          go_wp2_with fail
          refine (lineG_any _ 5 _ st [83] [a, b, c, d, e] _ rfl (by omega) (by simp) (by simp) HSM.out (cells5 (by simp [go_sem]) (by simp [go_sem]) (by simp [go_sem]) (by simp [go_sem]) (by simp [go_sem]))).mono ?_
          rintro e2 w3 ⟨rfl, hb3⟩
          have hll : (lineG (sty st) [83] [a, b, c, d, e]).length ≤ 50 := by have := lineG_length (sty st) [83] [a, b, c, d, e]; simp at this; omega
          have HW3 : Hid (Below wr.heap.size wr w3) := (below2 wr _ _).trans (hb3.mono (by simp; omega))
          clear hb3 x0 x1 x2 x3 x4 d5
          go_wp2
          go_roundw
          case rel =>
            refine ⟨k + 1, t ++ lineG (sty st) [83] [a, b, c, d, e], by rw [HU.out] <;> go_num, by go_num, ?_, by omega, ?_, ?_, ?_, ?_⟩
            · rw [← ba_append]
            · simp; omega
            · show _ = _; rw [HT2.out, HT.out]; simp
            · exact HW.out.trans (HW3.out.mono (by omega))
            · exact HBW.out.trans (HW3.out.mono (by omega))
          case measure => simp [intOf]; omega
    · have hke : k = r.stops.length := by omega
      subst hke
      obtain ⟨u, hu⟩ : ∃ u, u = used (sty st) r r.stops.length := ⟨_, rfl⟩
      have hul := used_le (sty st) r r.stops.length
      have HU := hide hu
      rw [← hu] at hul ⊢
      clear hu
      go_wp2_with fail
      go_loopw [5, 11] (fun s i wx => ∃ (k : Nat) (q : List UInt8), i = .int .i64 k ∧ s = .string ⟨q.toArray⟩ ∧ u ≤ k ∧ k ≤ r.roads.length ∧ q.length ≤ 800 + 50 * k ∧ Hid (q = t ++ restL (sty st) r u k) ∧ Hid (Below w.heap.size w wx) ∧ Hid (Below (w.heap.size + 1) bx wx)) (fun _ i _ => r.roads.length - (intOf i).toNat)
      case atStart => exact ⟨u, t, rfl, rfl, by omega, by omega, by omega, by show _ = _; rw [rest_nil]; simp, HW, HBW⟩
      case round =>
        clear HW HBW d5 d6 hsz
        obtain ⟨k, q, rfl, rfl, hku, hk, hq, HQ, HW, HBW⟩ := hrel
        have d6 : wr.cell? ⟨w.heap.size, 6, none⟩ = some (.slice aor r.roads.length capr) := (HBW.out.cell (by simp)).trans HB6.out
        have hsz : w.heap.size + 1 ≤ wr.heap.size := Nat.le_trans hbs HBW.out.size
        by_cases hlt : k < r.roads.length
        · obtain ⟨g, rfl, hgl⟩ := some_of HAR.out HRN.out (by omega)
          obtain ⟨a, b, c, hab⟩ := three (HN.out.roads _ (List.getElem_mem hlt)).1
          have hsm := (HN.out.roads _ (List.getElem_mem hlt)).2
          have hcl : ∀ j z, j < 3 → r.roads[k][j]? = some z → wr.cell? ⟨g, k * 3 + j, none⟩ = some (.int .i64 z) := by
            intro j z hj hz
            rw [HW.out.cell (by exact hgl), HR.out.cellAt (k * 3 + j) (by omega)]
            exact flat_ints (fun s hs => (HN.out.roads s hs).1) hlt hj hz
          have HQ' := rest_snoc (s := sty st) hku hlt
          rw [hab] at hsm hcl HQ'
          clear hab
          have x0 : wr.cell? ⟨g, k * 3, none⟩ = some (.int .i64 a) := hcl 0 a (by omega) rfl
          have x1 : wr.cell? ⟨g, k * 3 + 1, none⟩ = some (.int .i64 b) := hcl 1 b (by omega) rfl
          have x2 : wr.cell? ⟨g, k * 3 + 2, none⟩ = some (.int .i64 c) := hcl 2 c (by omega) rfl
          have HSM := hide hsm
          have HQ2 := hide HQ'
          clear hcl hsm HQ'
          go_wp2_with fail
          go_region_held3 (fun w' => w'.cell? ⟨w.heap.size, 6, none⟩ = some (.slice (some ⟨g, 0, none⟩) r.roads.length capr) ∧ w'.cell? ⟨g, k * 3, none⟩ = some (.int .i64 a) ∧ w'.cell? ⟨g, k * 3 + 1, none⟩ = some (.int .i64 b) ∧ w'.cell? ⟨g, k * 3 + 2, none⟩ = some (.int .i64 c)) (go_keep)
            (first
              | (go_at_call 10; refine (lineG_any _ 3 _ st [82] [a, b, c] _ rfl (by omega) (by simp) (by simp) HSM.out (cells3 (by simp [go_sem]) (by simp [go_sem]) (by simp [go_sem]))).mono ?_; rintro e2 w2 ⟨rfl, hb2⟩; obtain ⟨hw2, _, _⟩ := box_facts (w := wr) hb2 rfl rfl rfl rfl; have HW2 := hide hw2; have k6 := (hw2.cell (p := ⟨w.heap.size, 6, none⟩) (by exact hsz)).trans d6; have k0 := (hw2.cell (p := ⟨g, k * 3, none⟩) (by show g < _; omega)).trans x0; have k1 := (hw2.cell (p := ⟨g, k * 3 + 1, none⟩) (by show g < _; omega)).trans x1; have k2 := (hw2.cell (p := ⟨g, k * 3 + 2, none⟩) (by show g < _; omega)).trans x2; clear hw2 hb2))
          have hll : (lineG (sty st) [82] [a, b, c]).length ≤ 50 := by have := lineG_length (sty st) [82] [a, b, c]; simp at this; omega
          clear k6 k0 k1 k2 x0 x1 x2 d6
          go_wp2
          go_roundw
          case rel =>
            refine ⟨k + 1, q ++ lineG (sty st) [82] [a, b, c], by go_num, ?_, by omega, by omega, ?_, ?_, ?_, ?_⟩
            · rw [← ba_append]
            · simp; omega
            · show _ = _; rw [HQ.out, HQ2.out]; simp
            · exact HW.out.trans (HW2.out.mono (by omega))
            · exact HBW.out.trans (HW2.out.mono (by omega))
          case measure => simp [intOf]; omega
        · go_wp2
          go_ret
          have hke : k = r.roads.length := by omega
          subst hke
          refine ⟨retS ?_, HW.out⟩
          have e : textG (sty st) r = q := by
            rw [HQ.out, HT.out]; unfold textG itsAll restL
            rw [itemsL_append, List.take_length, HU.out, List.append_assoc]
          rw [e]
end Go.Proofs.YtebinaopncclgaaDoor
