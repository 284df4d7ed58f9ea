/- Walks: an instance's text. -/
import Derived.Test.YtebinaopncclgabBase
import Derived.Test.YtebinaopncclgabPlainD
import Derived.Test.YtebinaopncclgabFrame
import Derived.Laws.BytesArg
import Derived.Test.YtebinaopncclgabPlainE
import Derived.Test.YtebinaopncclgabParse
import Derived.Test.YtebinaopncclgabPlainF
import Derived.Deep.RegionHeld3
namespace Go.Proofs.Ytebinaopncclgab
open Go.RowKit Go.IntWalk

theorem retS {a b : ByteArray} (h : a = b) : Ending.returned (.string a) = .returned (.string b) := by rw [h]
theorem conv1 (W : World) (m : Nat) :
    (convert 58 9 (.slice (some ⟨W.heap.size, 0, none⟩) 1 1)).run Try.prog (W.alloc (.cells #[.int .u8 (48 + (m : Int) % 10)] 5)) = .ok (.string ⟨#[dg m]⟩) (W.alloc (.cells #[.int .u8 (48 + (m : Int) % 10)] 5)) := by
  have h := run_convert_bytes_arg (P := Try.prog) (W.alloc (.cells #[.int .u8 (48 + (m : Int) % 10)] 5)) 58 5 Try.underlying58 Try.underlying5 W.heap.size 0 1 1 [48 + (m : Int) % 10] rfl
    (by intro i hi; obtain rfl : i = 0 := by omega
        exact cell_of_row _ W.heap.size 0 _ _ (0, 0) (heap_alloc_new W _)) 9 Try.underlying9
  rw [h]
  have e : strOfNums [48 + (m : Int) % 10] = ⟨#[dg m]⟩ := by
    have : (48 + (m : Int) % 10).toNat = 48 + m % 10 := by omega
    simp only [strOfNums, List.map_cons, List.map_nil, this]; rfl
  rw [e]

set_option maxHeartbeats 1000000 in
theorem digits_any (n : Nat) (w : World) (hn : n ≤ 99999) :
    Calls Try.prog 17 #[.int .i64 n] w fun e w' => e = .returned (.string ⟨(decS n).toArray⟩) ∧ Below w.heap.size w w' := by
  go_enter Try.func17, Try.ntmps17
  go_wp2
  go_loopw [0, 3] (fun i s wr => ∃ (f m : Nat) (t : List UInt8), i = .int .i64 m ∧ s = .string ⟨t.toArray⟩ ∧ m ≤ 99999 ∧ Hid (m < 10 ^ (f + 1)) ∧ t.length ≤ 5 ∧ t.length + f ≤ 5 ∧ Hid (decF f m ++ t = decF 5 n) ∧ Below w.heap.size w wr) (fun i _ _ => (intOf i).toNat)
  case atStart => exact ⟨5, n, [], rfl, rfl, hn, by show _ < _; omega, by simp, by simp, by show _ = _; simp, Below.refl _ _⟩
  case round =>
    obtain ⟨f, m, t, rfl, rfl, hm, HM, ht, htf, HD, hbel⟩ := hrel
    have kc := fun W => conv1 W m
    have hsize := hbel.size
    by_cases h9 : 9 < m
    · go_wp2
      go_roundw
      case rel =>
        obtain ⟨f', rfl⟩ : ∃ f', f = f' + 1 := by
          cases f with
          | zero => have := HM.out; omega
          | succ f' => exact ⟨f', rfl⟩
        refine ⟨f', m / 10, dg m :: t, by go_num, by rw [ba_cons], by omega, ?_, by simp; omega, by simp; omega, ?_, hbel.alloc hsize _⟩
        · have := HM.out; show m / 10 < 10 ^ (f' + 1); rw [Nat.pow_succ] at this; omega
        · show _ = _; rw [← HD.out, decF_step h9]; simp
      case measure => simp [intOf]; omega
    · go_wp2
      go_ret
      refine ⟨retS ?_, hbel.alloc hsize _⟩
      have e : decS n = dg m :: t := by
        show decF 5 n = _
        rw [← HD.out, decF_low (by omega)]; rfl
      rw [e]; apply ByteArray.ext; simp [ByteArray.data_append]
end Go.Proofs.Ytebinaopncclgab
namespace Go.Proofs.Ytebinaopncclgab
open Go.RowKit Go.IntWalk

set_option maxHeartbeats 1000000 in
theorem line0_any (b n c : Nat) (k : List UInt8) (zs : List Int) (w : World) (hn : zs.length = n) (hl : n ≤ 10) (hk : k.length ≤ 10) (hb : b < w.heap.size)
    (hz : ∀ z ∈ zs, 0 ≤ z ∧ z ≤ 99999) (hc : ∀ i, i < n → w.cell? ⟨b, i, none⟩ = some (.int .i64 (zs.getD i 0))) :
    Calls Try.prog 10 #[.string ⟨k.toArray⟩, .slice (some ⟨b, 0, none⟩) n c, .int .i64 0] w fun e w' => e = .returned (.string ⟨(lineL k zs).toArray⟩) ∧ Below w.heap.size w w' := by
  subst hn
  have hbits : bits BinOp.and IntKind.i64 0 1 = 0 := by decide
  go_enter Try.func10, Try.ntmps10
  go_wp2
  go_loopw [0, 7, 8] (fun s i d wr => ∃ (m : Nat) (t : List UInt8), i = .int .i64 m ∧ s = .string ⟨t.toArray⟩ ∧ m ≤ zs.length ∧ t.length ≤ 10 + 7 * m ∧ Hid (t = k ++ wrds (zs.take m)) ∧ Below w.heap.size w wr) (fun _ i _ _ => zs.length - (intOf i).toNat)
  case atStart => exact ⟨0, k, rfl, rfl, by simp, by omega, by show _ = _; simp [wrds], Below.refl _ _⟩
  case round =>
    obtain ⟨m, t, rfl, rfl, hm, ht, HT, hbel⟩ := hrel
    have hsize := hbel.size
    by_cases hlt : m < zs.length
    · have hcm : wr.cell? ⟨b, m, none⟩ = some (.int .i64 zs[m]) := by
        rw [hbel.cell (by exact hb), hc m hlt]; simp [hlt]
      have hzm := hz zs[m] (List.getElem_mem hlt)
      have HS := wrds_snoc hlt
      have HS' : Hid (wrds (zs.take (m + 1)) = wrds (zs.take m) ++ wrd zs[m]) := HS
      clear hc hz HS
      generalize zs[m] = z at *
      obtain ⟨q, rfl⟩ := Int.eq_ofNat_of_zero_le hzm.1
      have hq : q ≤ 99999 := by omega
      have HQ := decF_length 5 q
      have HQ' : (decS q).length ≤ 6 := HQ
      clear hzm HQ
      go_wp2_with (go_at_call 17; refine (digits_any q _ hq).mono ?_; rintro e w' ⟨rfl, hb1⟩)
      go_roundw
      case rel =>
        refine ⟨m + 1, t ++ wrd q, by go_num, ?_, by omega, ?_, ?_, hbel.trans (hb1.mono hsize)⟩
        · show Value.string _ = Value.string _
          congr 1; apply ByteArray.ext; simp [ByteArray.data_append, wrd]
        · have := wrd_length q; simp; omega
        · show _ = _; rw [HS'.out, HT.out]; simp
      case measure => simp [intOf]; omega
    · go_wp2
      go_ret
      refine ⟨retS ?_, hbel⟩
      have e : lineL k zs = t ++ [10] := by unfold lineL; rw [HT.out, List.take_of_length_le (by omega)]
      rw [e]; apply ByteArray.ext; simp [ByteArray.data_append]
end Go.Proofs.Ytebinaopncclgab
namespace Go.Proofs.Ytebinaopncclgab
open Go.RowKit Go.IntWalk

theorem cells5 {f : Nat → Option Value} {a b c d e : Int} (h0 : f 0 = some (.int .i64 a)) (h1 : f 1 = some (.int .i64 b)) (h2 : f 2 = some (.int .i64 c)) (h3 : f 3 = some (.int .i64 d)) (h4 : f 4 = some (.int .i64 e)) : ∀ i, i < 5 → f i = some (.int .i64 ([a, b, c, d, e].getD i 0)) := by
  intro i hi
  match i, hi with
  | 0, _ => exact h0
  | 1, _ => exact h1
  | 2, _ => exact h2
  | 3, _ => exact h3
  | 4, _ => exact h4
theorem cells3 {f : Nat → Option Value} {a b c : Int} (h0 : f 0 = some (.int .i64 a)) (h1 : f 1 = some (.int .i64 b)) (h2 : f 2 = some (.int .i64 c)) : ∀ i, i < 3 → f i = some (.int .i64 ([a, b, c].getD i 0)) := by
  intro i hi
  match i, hi with
  | 0, _ => exact h0
  | 1, _ => exact h1
  | 2, _ => exact h2

theorem some_of {w : World} {B n : Nat} {ao : Option Addr} (h : ∀ a, ao = some a → ∃ g, a = ⟨g, 0, none⟩ ∧ B ≤ g ∧ g < w.heap.size) (h0 : ao = none → n = 0) (hn : 0 < n) : ∃ g, ao = some ⟨g, 0, none⟩ ∧ g < w.heap.size := by
  cases ao with
  | none => have := h0 rfl; omega
  | some a => obtain ⟨g, rfl, _, hg⟩ := h a rfl; exact ⟨g, rfl, hg⟩

set_option maxRecDepth 100000 in
set_option maxHeartbeats 2000000 in
theorem text0_any (B B' : Nat) (r : Rd) (vs vr : Value) (w : World) (hn : RdNice r) (hs : w.ownsRow B 38 5 vs r.stops.length (ints r.stops.flatten)) (hr : w.ownsRow B' 40 3 vr r.roads.length (ints r.roads.flatten)) :
    Calls Try.prog 5 #[inst r vs vr, .int .i64 0] w fun e w' => e = .returned (.string ⟨(textL r).toArray⟩) ∧ Below w.heap.size w w' := by
  have hns := hn.nstops
  have hnr := hn.nroads
  obtain ⟨aos, caps, rfl, has, hsn⟩ := own_val hs
  obtain ⟨aor, capr, rfl, har, hrn⟩ := own_val hr
  have HS := hide hs
  have HR := hide hr
  have HN := hide hn
  have HAS := hide has
  have HAR := hide har
  have HSN := hide hsn
  have HRN := hide hrn
  have hbits : bits BinOp.and IntKind.i64 0 1 = 0 := by decide
  clear hs hr hn has hsn har hrn
  unfold inst
  go_enter Try.func5, Try.ntmps5
  go_wp2_with fail
  refine (line0_any _ 5 _ [68] [r.vans, r.load, r.close, r.nodes, r.home] _ rfl (by omega) (by simp) (by simp) HN.out.nums (cells5 (by simp [go_sem]) (by simp [go_sem]) (by simp [go_sem]) (by simp [go_sem]) (by simp [go_sem]))).mono ?_
  rintro e1 w1 ⟨rfl, hb1⟩
  obtain ⟨bx, hbx⟩ : ∃ bx, bx = (w.alloc (.cells #[.int .i64 r.vans, .int .i64 r.load, .int .i64 r.close, .int .i64 r.nodes, .int .i64 r.home, .slice aos r.stops.length caps, .slice aor r.roads.length capr] 25)) := ⟨_, rfl⟩
  have hbw : Below (w.heap.size + 1) bx w1 := by
    rw [hbx]
    exact ((Below.refl _ _).alloc (by simp) _).trans (hb1.mono (by simp))
  have hw1 : Below w.heap.size w w1 := (below2 w _ _).trans (hb1.mono (by simp; omega))
  have hbs : w.heap.size + 1 ≤ bx.heap.size := by rw [hbx]; simp
  have hb5 : bx.cell? ⟨w.heap.size, 5, none⟩ = some (.slice aos r.stops.length caps) := by rw [hbx]; simp [go_sem]
  have hb6 : bx.cell? ⟨w.heap.size, 6, none⟩ = some (.slice aor r.roads.length capr) := by rw [hbx]; simp [go_sem]
  have HB5 := hide hb5
  have HB6 := hide hb6
  have hL : Hid ((headL r).length ≤ 100) := by show _ ≤ _; have := lineL_length [68] [r.vans, r.load, r.close, r.nodes, r.home]; simp at this; unfold headL; omega
  have hL' : (lineL [68] [r.vans, r.load, r.close, r.nodes, r.home]).length ≤ 100 := hL.out
  clear hb1 hbx hb5 hb6
  have HW1 := hide hw1
  have HBW := hide hbw
  clear hw1 hbw
  go_wp2_with fail
  go_loopw [5, 6, 7] (fun s q i wr => ∃ (k : Nat) (t : List UInt8), q = .int .i64 0 ∧ i = .int .i64 k ∧ s = .string ⟨t.toArray⟩ ∧ k ≤ r.stops.length ∧ t.length ≤ 100 + 50 * k ∧ Hid (t = headL r ++ stopsL (r.stops.take k)) ∧ Hid (Below w.heap.size w wr) ∧ Hid (Below (w.heap.size + 1) bx wr)) (fun _ _ i _ => r.stops.length - (intOf i).toNat)
  case atStart => exact ⟨0, _, rfl, rfl, rfl, by omega, by omega, by show _ = _; simp [stopsL, headL], HW1, HBW⟩
  case round =>
    clear HW1 HBW
    obtain ⟨k, t, rfl, rfl, rfl, hk, ht, HT, HW, HBW⟩ := hrel
    have d5 : wr.cell? ⟨w.heap.size, 5, none⟩ = some (.slice aos r.stops.length caps) := (HBW.out.cell (by simp)).trans HB5.out
    have hsz : w.heap.size + 1 ≤ wr.heap.size := Nat.le_trans hbs HBW.out.size
    by_cases hlt : k < r.stops.length
    · obtain ⟨g, rfl, hgl⟩ := some_of HAS.out HSN.out (by omega)
      obtain ⟨a, b, c, d, e, hab⟩ := five (HN.out.stops _ (List.getElem_mem hlt)).1
      have hsm := (HN.out.stops _ (List.getElem_mem hlt)).2
      have hcl : ∀ j z, j < 5 → r.stops[k][j]? = some z → wr.cell? ⟨g, k * 5 + j, none⟩ = some (.int .i64 z) := by
        intro j z hj hz
        rw [HW.out.cell (by exact hgl), HS.out.cellAt (k * 5 + j) (by omega)]
        exact flat_ints (fun s hs => (HN.out.stops s hs).1) hlt hj hz
      have HT' := stopsL_snoc hlt
      rw [hab] at hsm hcl HT'
      have HAB := hide hab
      clear hab
      have x0 : wr.cell? ⟨g, k * 5, none⟩ = some (.int .i64 a) := hcl 0 a (by omega) rfl
      have x1 : wr.cell? ⟨g, k * 5 + 1, none⟩ = some (.int .i64 b) := hcl 1 b (by omega) rfl
      have x2 : wr.cell? ⟨g, k * 5 + 2, none⟩ = some (.int .i64 c) := hcl 2 c (by omega) rfl
      have x3 : wr.cell? ⟨g, k * 5 + 3, none⟩ = some (.int .i64 d) := hcl 3 d (by omega) rfl
      have x4 : wr.cell? ⟨g, k * 5 + 4, none⟩ = some (.int .i64 e) := hcl 4 e (by omega) rfl
      have HSM := hide hsm
      have HT2 := hide HT'
      clear hcl hsm HT'
      go_wp2_with fail
      refine (line0_any _ 5 _ [83] [a, b, c, d, e] _ rfl (by omega) (by simp) (by simp) HSM.out (cells5 (by simp [go_sem]) (by simp [go_sem]) (by simp [go_sem]) (by simp [go_sem]) (by simp [go_sem]))).mono ?_
      rintro e2 w2 ⟨rfl, hb2⟩
      have hll : (lineL [83] [a, b, c, d, e]).length ≤ 50 := by have := lineL_length [83] [a, b, c, d, e]; simp at this; omega
      have HW2 : Hid (Below wr.heap.size wr w2) := (below2 wr _ _).trans (hb2.mono (by simp; omega))
      clear hb2 x0 x1 x2 x3 x4 d5
      go_wp2
      go_roundw
      case rel =>
        refine ⟨k + 1, t ++ lineL [83] [a, b, c, d, e], rfl, by go_num, ?_, by omega, ?_, ?_, ?_, ?_⟩
        · rw [← ba_append]
        · simp; omega
        · show _ = _; rw [HT.out, HT2.out]; simp
        · exact HW.out.trans (HW2.out.mono (by omega))
        · exact HBW.out.trans (HW2.out.mono (by omega))
      case measure => simp [intOf]; omega
    · have hke : k = r.stops.length := by omega
      subst hke
      have HT' : Hid (t = headL r ++ stopsL r.stops) := by show _ = _; rw [HT.out, List.take_length]
      clear HT
      go_wp2_with fail
      go_loopw [5, 11] (fun s i wx => ∃ (k : Nat) (q : List UInt8), i = .int .i64 k ∧ s = .string ⟨q.toArray⟩ ∧ k ≤ r.roads.length ∧ q.length ≤ 500 + 50 * k ∧ Hid (q = t ++ roadsL (r.roads.take k)) ∧ Hid (Below w.heap.size w wx) ∧ Hid (Below (w.heap.size + 1) bx wx)) (fun _ i _ => r.roads.length - (intOf i).toNat)
      case atStart => exact ⟨0, t, rfl, rfl, by omega, by omega, by show _ = _; simp [roadsL], HW, HBW⟩
      case round =>
        clear HW HBW d5 hsz
        obtain ⟨k, q, rfl, rfl, hk, hq, HQ, HW, HBW⟩ := hrel
        have d6 : wr.cell? ⟨w.heap.size, 6, none⟩ = some (.slice aor r.roads.length capr) := (HBW.out.cell (by simp)).trans HB6.out
        have hsz : w.heap.size + 1 ≤ wr.heap.size := Nat.le_trans hbs HBW.out.size
        by_cases hlt : k < r.roads.length
        · obtain ⟨g, rfl, hgl⟩ := some_of HAR.out HRN.out (by omega)
          obtain ⟨a, b, c, hab⟩ := three (HN.out.roads _ (List.getElem_mem hlt)).1
          have hsm := (HN.out.roads _ (List.getElem_mem hlt)).2
          have hcl : ∀ j z, j < 3 → r.roads[k][j]? = some z → wr.cell? ⟨g, k * 3 + j, none⟩ = some (.int .i64 z) := by
            intro j z hj hz
            rw [HW.out.cell (by exact hgl), HR.out.cellAt (k * 3 + j) (by omega)]
            exact flat_ints (fun s hs => (HN.out.roads s hs).1) hlt hj hz
          have HQ' := roadsL_snoc hlt
          rw [hab] at hsm hcl HQ'
          clear hab
          have x0 : wr.cell? ⟨g, k * 3, none⟩ = some (.int .i64 a) := hcl 0 a (by omega) rfl
          have x1 : wr.cell? ⟨g, k * 3 + 1, none⟩ = some (.int .i64 b) := hcl 1 b (by omega) rfl
          have x2 : wr.cell? ⟨g, k * 3 + 2, none⟩ = some (.int .i64 c) := hcl 2 c (by omega) rfl
          have HSM := hide hsm
          have HQ2 := hide HQ'
          clear hcl hsm HQ'
          go_wp2_with fail
          go_region_held3 (fun w' => w'.cell? ⟨w.heap.size, 6, none⟩ = some (.slice (some ⟨g, 0, none⟩) r.roads.length capr) ∧ w'.cell? ⟨g, k * 3, none⟩ = some (.int .i64 a) ∧ w'.cell? ⟨g, k * 3 + 1, none⟩ = some (.int .i64 b) ∧ w'.cell? ⟨g, k * 3 + 2, none⟩ = some (.int .i64 c)) (go_keep)
            (first
              | (go_at_call 10; refine (line0_any _ 3 _ [82] [a, b, c] _ rfl (by omega) (by simp) (by simp) HSM.out (cells3 (by simp [go_sem]) (by simp [go_sem]) (by simp [go_sem]))).mono ?_; rintro e2 w2 ⟨rfl, hb2⟩; obtain ⟨hw2, _, _⟩ := box_facts (w := wr) hb2 rfl rfl rfl rfl; have HW2 := hide hw2; have k6 := (hw2.cell (p := ⟨w.heap.size, 6, none⟩) (by exact hsz)).trans d6; have k0 := (hw2.cell (p := ⟨g, k * 3, none⟩) (by show g < _; omega)).trans x0; have k1 := (hw2.cell (p := ⟨g, k * 3 + 1, none⟩) (by show g < _; omega)).trans x1; have k2 := (hw2.cell (p := ⟨g, k * 3 + 2, none⟩) (by show g < _; omega)).trans x2; clear hw2 hb2))
          have hll : (lineL [82] [a, b, c]).length ≤ 50 := by have := lineL_length [82] [a, b, c]; simp at this; omega
          clear k6 k0 k1 k2 x0 x1 x2 d6
          go_wp2
          go_roundw
          case rel =>
            refine ⟨k + 1, q ++ lineL [82] [a, b, c], by go_num, ?_, by omega, ?_, ?_, ?_, ?_⟩
            · rw [← ba_append]
            · simp; omega
            · show _ = _; rw [HQ.out, HQ2.out]; simp
            · exact HW.out.trans (HW2.out.mono (by omega))
            · exact HBW.out.trans (HW2.out.mono (by omega))
          case measure => simp [intOf]; omega
        · go_wp2
          go_ret
          have hke : k = r.roads.length := by omega
          subst hke
          refine ⟨retS ?_, HW.out⟩
          rw [HQ.out, HT'.out, List.take_length]; rfl
end Go.Proofs.Ytebinaopncclgab
