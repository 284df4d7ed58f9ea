/- Walks of the document's answer: the text of a tree is written. -/
import Derived.Test.YtebinaopncclgabGreatDoorXTree
import Derived.Test.YtebinaopncclgabGreatDoorXLine
import Derived.Lib.AppendStr
import Derived.Laws.BytesArg
namespace Go.Proofs.YtebinaopncclgabGreatDoor
open Go.RowKit Go.IntWalk Go.Lib

theorem Tryz.infoU8 : (Tryz.prog.info? 5).map (fun i => (i.zero, i.size, i.bytes)) = some (some (.int .u8 0), 1, 1) := by kernel_rfl
/- bytes of one's own, as a text -/
theorem conv_own {w : World} {B : Nat} {v : Value} {t : List UInt8} (h : w.ownsRow B 5 1 v t.length (strCells ⟨t.toArray⟩)) : (convert 144 9 v).run Tryz.prog w = .ok (.string ⟨t.toArray⟩) w := by
  rcases h.2 with ⟨rfl, h0⟩ | ⟨g, cap, cur, rfl, hb, hg, _⟩
  · have ht : t = [] := List.eq_nil_of_length_eq_zero h0
    subst ht
    exact run_convert_bytes_nil w 144 5 Tryz.underlying144 Tryz.underlying5 0 0 9 Tryz.underlying9
  · have hr := run_convert_bytes_arg (P := Tryz.prog) w 144 5 Tryz.underlying144 Tryz.underlying5 g 0 t.length cap (t.map fun b => (b.toNat : Int)) (by simp) (fun i hi => by
      rw [Nat.zero_add, h.cellAt i (by omega)]
      simp [strCells, List.getD_eq_getElem?_getD, hi]) 9 Tryz.underlying9
    rw [hr]
    have e : strOfNums (t.map fun b => (b.toNat : Int)) = ⟨t.toArray⟩ := by
      apply ByteArray.ext
      apply Array.toList_inj.1
      rw [strOfNums_data]
      simp [Function.comp_def]
    rw [e]
theorem flat_len {zs : List Int} (h : ∀ z ∈ zs, -100000000 ≤ z ∧ z ≤ 100000000) : (wrdsT zs).length ≤ 11 * zs.length := by
  induction zs with
  | nil => simp [wrdsT]
  | cons z zs ih =>
    have h1 := decT_len (h z (by simp)).1 (h z (by simp)).2
    have h2 := ih (fun y hy => h y (by simp [hy]))
    unfold wrdsT at h2 ⊢
    simp only [List.map_cons, List.flatten_cons, List.length_append, List.length_cons]
    omega
theorem line_len {nd : NodeT} (h : nodeOkT nd = true) : (lineT nd).length ≤ 230 := by
  obtain ⟨h1, h2⟩ := nodeOk_parts h
  have h3 := flat_len h2
  have h4 := cntT_kind h1
  unfold lineT
  rw [body_wrds]
  simp only [List.length_append, List.length_cons, List.length_nil]
  omega

set_option maxRecDepth 100000 in
set_option maxHeartbeats 4000000 in
theorem rsumO_any (v : Value) (zs : List Int) (w : World) (hn : zs.length ≤ 2000000) (hr : ListO w v zs) :
    Calls Tryz.prog 118 #[v] w fun e w' => (∃ t, e = .returned (.tuple #[.int .i64 t, .bool (zs.all okZ)])) ∧ Below w.heap.size w w' := by
  obtain ⟨ao, c, rfl, hr⟩ := hr
  have HR := hid hr
  clear hr
  go_enter Tryz.func118, Tryz.ntmps118
  go_wp2_with fail
  go_loopw [4, 5] (fun s i wr => ∃ (k : Nat) (S : Int), k ≤ zs.length ∧ i = .int .i64 k ∧ s = .int .i64 S ∧ (-(100000000 * (k : Int)) ≤ S ∧ S ≤ 100000000 * (k : Int)) ∧ Hid ((zs.take k).all okZ = true) ∧ Hid (Below w.heap.size w wr)) (fun _ i _ => zs.length - (intOf i).toNat)
  case atStart => exact ⟨0, 0, Nat.zero_le _, rfl, rfl, by omega, rfl, Below.refl _ _⟩
  case round =>
    obtain ⟨k, S, hk, rfl, rfl, hS, HF, HB⟩ := hrel
    by_cases hlt : k < zs.length
    · obtain ⟨b, o, rfl, hbl, hcl⟩ := HR.out k hlt
      have x0 : wr.cell? ⟨b, o + k, none⟩ = _ := (HB.out.cell (by exact hbl)).trans hcl
      have x1 : b < wr.heap.size := Nat.lt_of_lt_of_le hbl HB.out.size
      have ik : (0 : Int) ≤ (k : Int) := by omega
      have jk : (k : Int) < (zs.length : Int) := by omega
      have HAT := hid (all_take hlt)
      have HMM : Hid (zs.getD k 0 ∈ zs) := getD_mem hlt
      generalize zs.getD k 0 = z at *
      clear hcl
      by_cases h1 : z < -100000000
      · have e1 : decide (z < -100000000) = true := by simpa using h1
        have HD : Hid (zs.all okZ = false) := by
          show _ = _
          rw [List.all_eq_false]
          exact ⟨z, HMM.out, by unfold okZ; simp; omega⟩
        clear h1
        go_wp2_with fail
        refine bodyPost_ret (v := .tuple #[.int .i64 0, .bool false]) (by simp [results, Tryz.results118, go_sem]) rfl ?_
        exact ⟨⟨0, by rw [HD.out]⟩, HB.out⟩
      · have e1 : decide (z < -100000000) = false := by simpa using h1
        by_cases h2 : 100000000 < z
        · have e2 : decide (100000000 < z) = true := by simpa using h2
          have HD : Hid (zs.all okZ = false) := by
            show _ = _
            rw [List.all_eq_false]
            exact ⟨z, HMM.out, by unfold okZ; simp; omega⟩
          clear h1 h2
          go_wp2_with fail
          refine bodyPost_ret (v := .tuple #[.int .i64 0, .bool false]) (by simp [results, Tryz.results118, go_sem]) rfl ?_
          exact ⟨⟨0, by rw [HD.out]⟩, HB.out⟩
        · have e2 : decide (100000000 < z) = false := by simpa using h2
          have HF2 : Hid ((zs.take (k + 1)).all okZ = true) := by
            show _ = _
            rw [HAT.out, HF.out]
            unfold okZ; simp; omega
          have w1 : IntKind.i64.wrap (S + z) = S + z := i64_fits _ (by omega)
          go_wp2_with fail
          exact ⟨⟨k + 1, S + z, by omega, by go_num, rfl, by omega, HF2, HB⟩, by simp [intOf]; omega⟩
    · have HD : Hid (zs.all okZ = true) := by
        show _ = _
        have := HF.out
        rw [List.take_of_length_le (by omega)] at this
        exact this
      go_wp2_with fail
      refine bodyPost_ret (v := .tuple #[.int .i64 S, .bool true]) (by simp [results, Tryz.results118, go_sem]) rfl ?_
      exact ⟨⟨S, by rw [HD.out]⟩, HB.out⟩
theorem str_app (a b : List UInt8) : strCells ⟨(a ++ b).toArray⟩ = strCells ⟨a.toArray⟩ ++ strCells ⟨b.toArray⟩ := by simp [strCells]
theorem text_snoc {L : List NodeT} {k : Nat} (h : k < L.length) : textT (L.take (k + 1)) = textT (L.take k) ++ lineT L[k] := by
  unfold textT
  rw [List.take_succ_eq_append_getElem h, List.map_append, List.flatten_append]
  simp only [List.map_cons, List.map_nil, List.flatten_cons, List.flatten_nil, List.append_nil]

set_option maxRecDepth 100000 in
set_option maxHeartbeats 8000000 in
theorem rwrite_any (L : List NodeT) (v : Value) (w : World) (hL : L.length ≤ 2000000) (hl : ∀ nd ∈ L, nd.2.length ≤ 2000000) (hr : TreeO w v L) :
    Calls Tryz.prog 75 #[v] w fun e w' => e = .returned (.tuple #[.string ⟨(writeT L).1.toArray⟩, .int .i64 (writeT L).2]) ∧ Below w.heap.size w w' := by
  obtain ⟨i0, hi, hz0, hz1, hz2⟩ := info_parts Tryz.infoU8
  have HR := hid hr
  have HL := hid hl
  obtain ⟨ao, c, rfl, _⟩ := hr
  clear hl
  have HWR : Hid (writeT L = if treeT 1 L = true then (textT L, 0) else ([], 14)) := rfl
  have HEQ : Hid (treeT 1 L = treeT 1 (L.drop 0)) := by show _ = _; simp
  generalize writeT L = ans at *
  generalize treeT 1 L = bt at *
  go_enter Tryz.func75, Tryz.ntmps75
  go_wp2_with fail
  go_loopw [4, 5, 6] (fun ov op i wr => ∃ (k o : Nat) (t : List UInt8), i = .int .i64 k ∧ op = .int .i64 o ∧ k ≤ L.length ∧ o ≤ k + 1 ∧ t.length ≤ 230 * k ∧ Hid (t = textT (L.take k)) ∧ Hid (wr.ownsRow w.heap.size 5 1 ov t.length (strCells ⟨t.toArray⟩)) ∧ Hid (bt = treeT o (L.drop k)) ∧ Hid (Below w.heap.size w wr)) (fun _ _ i _ => L.length - (intOf i).toNat)
  case atStart => exact ⟨0, 1, [], rfl, rfl, Nat.zero_le _, by omega, by simp, rfl, World.ownsRow_nil _ _ _ _, HEQ, Below.refl _ _⟩
  case round =>
    obtain ⟨k, o, t, rfl, rfl, hk, ho, htl, HT, HO, HG, HB⟩ := hrel
    obtain ⟨av, cv, rfl, _, _⟩ := own_val HO.out
    by_cases hlt : k < L.length
    · obtain ⟨ao', c', hv, hz⟩ := HR.out.below HB.out
      cases hv
      obtain ⟨b, off, ai, ci, rfl, hbl, x0, x1, hli⟩ := hz k hlt
      have HTD : Hid (bt = (o != 0 && nodeOkT L[k] && treeT (nextT o L[k].1) (L.drop (k + 1)))) := by show _ = _; rw [HG.out, tree_drop hlt]
      have HTX := hid (text_snoc hlt)
      have hln := HL.out _ (List.getElem_mem hlt)
      have HLL := hid (line_len (nd := L[k]))
      generalize L[k] = nd at *
      obtain ⟨kd, zs⟩ := nd
      dsimp only at *
      have ik : (0 : Int) ≤ (k : Int) := by omega
      have jk : (k : Int) < (L.length : Int) := by omega
      have HSU : Hid (∀ W, Below wr.heap.size wr W → Calls Tryz.prog 118 #[.slice ai zs.length ci] W fun e w' => (∃ t, e = .returned (.tuple #[.int .i64 t, .bool (zs.all okZ)])) ∧ Below W.heap.size W w') := fun W hW => rsumO_any _ zs W hln (hli.below hW)
      have HCT := hid (fun W => rcount_any kd zs.length W (by omega))
      have HND := hid (nodeOk_eq kd zs)
      have HNQ : Hid (nodeOkT (kd, zs) = true → 1 ≤ kd ∧ kd ≤ 4 ∧ 0 < zs.length ∧ zs.length ≤ 20 ∧ ∀ z ∈ zs, -100000000 ≤ z ∧ z ≤ 100000000) := fun h => by
        obtain ⟨h1, h2⟩ := nodeOk_parts h
        have := cntT_kind h1
        dsimp only at this h2
        exact ⟨by omega, by omega, by omega, by omega, h2⟩
      have HLI := hid hli
      obtain ⟨W, hW⟩ : ∃ W, W = wr.alloc (.cells #[.int .i64 kd, .slice ai zs.length ci] 76) := ⟨_, rfl⟩
      have HBW : Hid (Below wr.heap.size wr W) := by show Below _ _ _; rw [hW]; exact below1 wr _
      have hbx : W.heap[wr.heap.size]? = some (.cells #[.int .i64 kd, .slice ai zs.length ci] 76 (0, 0)) := by rw [hW]; exact heap_alloc_new wr _
      have HBX := hid hbx
      have HWQ := hid hW
      generalize hca : cntT kd zs.length = b1 at *
      generalize hcb : zs.all okZ = b2 at *
      clear hz HG hW hbx hli
      go_wp2_with fail
      rw [← HWQ.out]
      refine (HSU.out _ HBW.out).mono ?_
      rintro e1 w1 ⟨⟨ts, rfl⟩, hb1⟩
      have HB1 : Hid (Below wr.heap.size wr w1) := HBW.out.trans (hb1.mono HBW.out.size)
      have hr1 := (hb1.block _ (Array.getElem?_eq_some_iff.1 HBX.out).1).trans HBX.out
      have m0 : w1.cell? ⟨wr.heap.size, 0, none⟩ = some (.int .i64 kd) := cell_of_row w1 _ 0 _ _ _ hr1
      have m1 : w1.cell? ⟨wr.heap.size, 1, none⟩ = some (.slice ai zs.length ci) := cell_of_row w1 _ 1 _ _ _ hr1
      have lm : wr.heap.size < w1.heap.size := (Array.getElem?_eq_some_iff.1 hr1).1
      clear hb1 HSU hr1
      go_wp2_with fail
      refine (HCT.out _).mono ?_
      rintro e2 w2 ⟨rfl, rfl⟩
      clear HCT
      have HB2' := HB1
      cases b1 with
      | false =>
        have HBT : Hid (bt = false) := by show _ = _; rw [HTD.out, HND.out]; simp
        have HA : Hid (ans = ([], 14)) := by show _ = _; rw [HWR.out, HBT.out, if_neg (by simp)]
        go_wp2_with fail
        refine bodyPost_ret (v := .tuple #[.string ⟨#[]⟩, .int .i64 14]) (by simp [results, Tryz.results75, go_sem]) rfl ?_
        exact ⟨by rw [HA.out], HB.out.trans (HB1.out.mono HB.out.size)⟩
      | true =>
        cases b2 with
        | false =>
          have HBT : Hid (bt = false) := by show _ = _; rw [HTD.out, HND.out]; simp
          have HA : Hid (ans = ([], 14)) := by show _ = _; rw [HWR.out, HBT.out, if_neg (by simp)]
          go_wp2_with fail
          refine bodyPost_ret (v := .tuple #[.string ⟨#[]⟩, .int .i64 14]) (by simp [results, Tryz.results75, go_sem]) rfl ?_
          exact ⟨by rw [HA.out], HB.out.trans (HB1.out.mono HB.out.size)⟩
          | true =>
            by_cases h0 : o = 0
            · have HBT : Hid (bt = false) := by show _ = _; rw [HTD.out, h0]; rfl
              have e0 : ((o : Int) == 0) = true := by simpa using h0
              clear h0 HTD
              have HA : Hid (ans = ([], 14)) := by show _ = _; rw [HWR.out, HBT.out, if_neg (by simp)]
              go_wp2_with fail
              refine bodyPost_ret (v := .tuple #[.string ⟨#[]⟩, .int .i64 14]) (by simp [results, Tryz.results75, go_sem]) rfl ?_
              exact ⟨by rw [HA.out], HB.out.trans (HB1.out.mono HB.out.size)⟩
            · have e0 : ((o : Int) == 0) = false := by simpa using h0
              have hok : nodeOkT (kd, zs) = true := by rw [HND.out]; rfl
              rw [hok, show (o != 0) = true by simpa using h0] at HTD
              obtain ⟨hk1, hk4, hz0', hz20, hzb⟩ := HNQ.out hok
              have hkd : kd = 1 ∨ kd = 2 ∨ kd = 3 ∨ kd = 4 := by omega
              obtain ⟨ai', ci', hvi, hcl0⟩ := HLI.out
              cases hvi
              obtain ⟨bl, ol, rfl, hbl2, _⟩ := hcl0 0 hz0'
              have hcl : ∀ i, i < zs.length → wr.cell? ⟨bl, ol + i, none⟩ = some (.int .i64 (zs.getD i 0)) := fun i hi' => by
                obtain ⟨b3, o3, e3, _, h3⟩ := hcl0 i hi'
                cases e3; exact h3
              clear hcl0 hca hcb HNQ
              rcases hkd with rfl | rfl | rfl | rfl
              · have hwk : IntKind.i64.wrap (1 - 1) = 0 := by decide
                have hwk2 : IntKind.i64.wrap 0 = 0 := by decide
                have HNX : Hid (nextT o 1 = o + 1) := by show _ = _; unfold nextT; simp
                have HLN : Hid (lineT (1, zs) = (98 :: wrdsT zs) ++ [10]) := rfl
                have HCL : Hid (∀ W', Below w2.heap.size w2 W' → Calls Tryz.prog 100 #[.string ((⟨#[98, 100, 104, 99]⟩ : ByteArray).extract 0 1), .slice (some ⟨bl, ol, none⟩) zs.length ci] W' fun e w' => e = .returned (.string ⟨(lineT (1, zs)).toArray⟩) ∧ w'.cell? ⟨wr.heap.size, 0, none⟩ = some (.int .i64 1) ∧ w'.cell? ⟨wr.heap.size, 1, none⟩ = some (.slice (some ⟨bl, ol, none⟩) zs.length ci) ∧ Hid (Below w2.heap.size w2 w')) := fun W' hW' => by
                  have hx : (⟨#[98, 100, 104, 99]⟩ : ByteArray).extract 0 1 = ⟨([98] : List UInt8).toArray⟩ := by rw [Lib.extract_eq]; rfl
                  rw [hx]
                  have hWW : Below wr.heap.size wr W' := HB1.out.trans (hW'.mono HB1.out.size)
                  refine (rlineT_any bl ol zs.length ci [98] zs W' rfl hz20 (by simp) (Nat.lt_of_lt_of_le hbl2 hWW.size) hzb (fun i hi => (hWW.cell (by exact hbl2)).trans (hcl i hi))).mono ?_
                  rintro e w' ⟨h1, h2⟩
                  have h3 : Below w2.heap.size w2 w' := hW'.trans (h2.mono hW'.size)
                  exact ⟨by rw [h1, HLN.out]; rfl, (h3.cell (by exact lm)).trans m0, (h3.cell (by exact lm)).trans m1, h3⟩
                have hll : (lineT (1, zs)).length ≤ 230 := HLL.out hok
                rw [HNX.out] at HTD
                clear hcl hzb hok HLL HND HLI
                generalize lineT (1, zs) = ln at *
                go_wp2_with fail
                go_region_held3 (fun w' => w'.cell? ⟨wr.heap.size, 0, none⟩ = some (.int .i64 1) ∧ w'.cell? ⟨wr.heap.size, 1, none⟩ = some (.slice (some ⟨bl, ol, none⟩) zs.length ci)) (go_keep) (first | (go_at_call 100; refine (HCL.out _ (by first | exact Below.refl _ _ | exact (Below.refl _ _).drew)).mono ?_; rintro e3 w3 ⟨rfl, s0, s1, HF3⟩))
                have HB3 : Hid (Below w.heap.size w w3) := HB.out.trans ((HB1.out.trans (HF3.out.mono HB1.out.size)).mono HB.out.size)
                have HO3 : Hid (w3.ownsRow w.heap.size 5 1 (.slice av t.length cv) t.length (strCells ⟨t.toArray⟩)) := own_below (own_below HO.out HB1.out) (HF3.out.mono (Nat.le_refl _))
                have hz3 := HB3.out.size
                clear HCL HF3 s0 s1 m0 m1
                go_wp2_with (at_builtin; refine wpList_append_own_string _ rfl _ _ 144 9 rfl w.heap.size 5 i0 Tryz.underlying144 Tryz.underlying9 hi hz0 hz1 hz2 _ _ _ rfl HO3.out ⟨ln.toArray⟩ rfl ?c1 ?c2 ?c3 ?_)
                case c1 => unfold maxLen; have : (⟨ln.toArray⟩ : ByteArray).size = ln.length := by simp [ByteArray.size]
                           omega
                case c2 => have : (⟨ln.toArray⟩ : ByteArray).size = ln.length := by simp [ByteArray.size]
                           omega
                case c3 => exact hz3
                intro v5 w5 hown5 hgr5 _
                have HO5 : Hid (w5.ownsRow w.heap.size 5 1 v5 (t ++ ln).length (strCells ⟨(t ++ ln).toArray⟩)) := by
                  show World.ownsRow _ _ _ _ _ _ _
                  rw [str_app, List.length_append, show ln.length = (⟨ln.toArray⟩ : ByteArray).size by simp [ByteArray.size]]; exact hown5
                have HB5 : Hid (Below w.heap.size w w5) := HB3.out.grown hgr5 hz3 (fun q hq => (HO3.out.lt q hq).1)
                have HT5 : Hid (t ++ ln = textT (L.take (k + 1))) := by show _ = _; rw [HTX.out, HT.out]
                clear hown5 hgr5
                go_wp2
                go_roundw
                case rel => exact ⟨k + 1, o + 1, t ++ ln, by go_num, by go_num, by omega, by omega, by simp; omega, HT5, HO5, HTD, HB5⟩
                case measure => simp [intOf]; omega
              · have hwk : IntKind.i64.wrap (2 - 1) = 1 := by decide
                have hwk2 : IntKind.i64.wrap 1 = 1 := by decide
                have HNX : Hid (nextT o 2 = o - 1) := by show _ = _; unfold nextT; simp
                have HLN : Hid (lineT (2, zs) = (100 :: wrdsT zs) ++ [10]) := rfl
                have HCL : Hid (∀ W', Below w2.heap.size w2 W' → Calls Tryz.prog 100 #[.string ((⟨#[98, 100, 104, 99]⟩ : ByteArray).extract 1 2), .slice (some ⟨bl, ol, none⟩) zs.length ci] W' fun e w' => e = .returned (.string ⟨(lineT (2, zs)).toArray⟩) ∧ w'.cell? ⟨wr.heap.size, 0, none⟩ = some (.int .i64 2) ∧ w'.cell? ⟨wr.heap.size, 1, none⟩ = some (.slice (some ⟨bl, ol, none⟩) zs.length ci) ∧ Hid (Below w2.heap.size w2 w')) := fun W' hW' => by
                  have hx : (⟨#[98, 100, 104, 99]⟩ : ByteArray).extract 1 2 = ⟨([100] : List UInt8).toArray⟩ := by rw [Lib.extract_eq]; rfl
                  rw [hx]
                  have hWW : Below wr.heap.size wr W' := HB1.out.trans (hW'.mono HB1.out.size)
                  refine (rlineT_any bl ol zs.length ci [100] zs W' rfl hz20 (by simp) (Nat.lt_of_lt_of_le hbl2 hWW.size) hzb (fun i hi => (hWW.cell (by exact hbl2)).trans (hcl i hi))).mono ?_
                  rintro e w' ⟨h1, h2⟩
                  have h3 : Below w2.heap.size w2 w' := hW'.trans (h2.mono hW'.size)
                  exact ⟨by rw [h1, HLN.out]; rfl, (h3.cell (by exact lm)).trans m0, (h3.cell (by exact lm)).trans m1, h3⟩
                have hll : (lineT (2, zs)).length ≤ 230 := HLL.out hok
                rw [HNX.out] at HTD
                clear hcl hzb hok HLL HND HLI
                generalize lineT (2, zs) = ln at *
                go_wp2_with fail
                go_region_held3 (fun w' => w'.cell? ⟨wr.heap.size, 0, none⟩ = some (.int .i64 2) ∧ w'.cell? ⟨wr.heap.size, 1, none⟩ = some (.slice (some ⟨bl, ol, none⟩) zs.length ci)) (go_keep) (first | (go_at_call 100; refine (HCL.out _ (by first | exact Below.refl _ _ | exact (Below.refl _ _).drew)).mono ?_; rintro e3 w3 ⟨rfl, s0, s1, HF3⟩))
                have HB3 : Hid (Below w.heap.size w w3) := HB.out.trans ((HB1.out.trans (HF3.out.mono HB1.out.size)).mono HB.out.size)
                have HO3 : Hid (w3.ownsRow w.heap.size 5 1 (.slice av t.length cv) t.length (strCells ⟨t.toArray⟩)) := own_below (own_below HO.out HB1.out) (HF3.out.mono (Nat.le_refl _))
                have hz3 := HB3.out.size
                clear HCL HF3 s0 s1 m0 m1
                go_wp2_with (at_builtin; refine wpList_append_own_string _ rfl _ _ 144 9 rfl w.heap.size 5 i0 Tryz.underlying144 Tryz.underlying9 hi hz0 hz1 hz2 _ _ _ rfl HO3.out ⟨ln.toArray⟩ rfl ?c1 ?c2 ?c3 ?_)
                case c1 => unfold maxLen; have : (⟨ln.toArray⟩ : ByteArray).size = ln.length := by simp [ByteArray.size]
                           omega
                case c2 => have : (⟨ln.toArray⟩ : ByteArray).size = ln.length := by simp [ByteArray.size]
                           omega
                case c3 => exact hz3
                intro v5 w5 hown5 hgr5 _
                have HO5 : Hid (w5.ownsRow w.heap.size 5 1 v5 (t ++ ln).length (strCells ⟨(t ++ ln).toArray⟩)) := by
                  show World.ownsRow _ _ _ _ _ _ _
                  rw [str_app, List.length_append, show ln.length = (⟨ln.toArray⟩ : ByteArray).size by simp [ByteArray.size]]; exact hown5
                have HB5 : Hid (Below w.heap.size w w5) := HB3.out.grown hgr5 hz3 (fun q hq => (HO3.out.lt q hq).1)
                have HT5 : Hid (t ++ ln = textT (L.take (k + 1))) := by show _ = _; rw [HTX.out, HT.out]
                clear hown5 hgr5
                go_wp2
                go_roundw
                case rel => exact ⟨k + 1, o - 1, t ++ ln, by go_num, by go_num, by omega, by omega, by simp; omega, HT5, HO5, HTD, HB5⟩
                case measure => simp [intOf]; omega
              · have hwk : IntKind.i64.wrap (3 - 1) = 2 := by decide
                have hwk2 : IntKind.i64.wrap 2 = 2 := by decide
                have HNX : Hid (nextT o 3 = o - 1) := by show _ = _; unfold nextT; simp
                have HLN : Hid (lineT (3, zs) = (104 :: wrdsT zs) ++ [10]) := rfl
                have HCL : Hid (∀ W', Below w2.heap.size w2 W' → Calls Tryz.prog 100 #[.string ((⟨#[98, 100, 104, 99]⟩ : ByteArray).extract 2 3), .slice (some ⟨bl, ol, none⟩) zs.length ci] W' fun e w' => e = .returned (.string ⟨(lineT (3, zs)).toArray⟩) ∧ w'.cell? ⟨wr.heap.size, 0, none⟩ = some (.int .i64 3) ∧ w'.cell? ⟨wr.heap.size, 1, none⟩ = some (.slice (some ⟨bl, ol, none⟩) zs.length ci) ∧ Hid (Below w2.heap.size w2 w')) := fun W' hW' => by
                  have hx : (⟨#[98, 100, 104, 99]⟩ : ByteArray).extract 2 3 = ⟨([104] : List UInt8).toArray⟩ := by rw [Lib.extract_eq]; rfl
                  rw [hx]
                  have hWW : Below wr.heap.size wr W' := HB1.out.trans (hW'.mono HB1.out.size)
                  refine (rlineT_any bl ol zs.length ci [104] zs W' rfl hz20 (by simp) (Nat.lt_of_lt_of_le hbl2 hWW.size) hzb (fun i hi => (hWW.cell (by exact hbl2)).trans (hcl i hi))).mono ?_
                  rintro e w' ⟨h1, h2⟩
                  have h3 : Below w2.heap.size w2 w' := hW'.trans (h2.mono hW'.size)
                  exact ⟨by rw [h1, HLN.out]; rfl, (h3.cell (by exact lm)).trans m0, (h3.cell (by exact lm)).trans m1, h3⟩
                have hll : (lineT (3, zs)).length ≤ 230 := HLL.out hok
                rw [HNX.out] at HTD
                clear hcl hzb hok HLL HND HLI
                generalize lineT (3, zs) = ln at *
                go_wp2_with fail
                go_region_held3 (fun w' => w'.cell? ⟨wr.heap.size, 0, none⟩ = some (.int .i64 3) ∧ w'.cell? ⟨wr.heap.size, 1, none⟩ = some (.slice (some ⟨bl, ol, none⟩) zs.length ci)) (go_keep) (first | (go_at_call 100; refine (HCL.out _ (by first | exact Below.refl _ _ | exact (Below.refl _ _).drew)).mono ?_; rintro e3 w3 ⟨rfl, s0, s1, HF3⟩))
                have HB3 : Hid (Below w.heap.size w w3) := HB.out.trans ((HB1.out.trans (HF3.out.mono HB1.out.size)).mono HB.out.size)
                have HO3 : Hid (w3.ownsRow w.heap.size 5 1 (.slice av t.length cv) t.length (strCells ⟨t.toArray⟩)) := own_below (own_below HO.out HB1.out) (HF3.out.mono (Nat.le_refl _))
                have hz3 := HB3.out.size
                clear HCL HF3 s0 s1 m0 m1
                go_wp2_with (at_builtin; refine wpList_append_own_string _ rfl _ _ 144 9 rfl w.heap.size 5 i0 Tryz.underlying144 Tryz.underlying9 hi hz0 hz1 hz2 _ _ _ rfl HO3.out ⟨ln.toArray⟩ rfl ?c1 ?c2 ?c3 ?_)
                case c1 => unfold maxLen; have : (⟨ln.toArray⟩ : ByteArray).size = ln.length := by simp [ByteArray.size]
                           omega
                case c2 => have : (⟨ln.toArray⟩ : ByteArray).size = ln.length := by simp [ByteArray.size]
                           omega
                case c3 => exact hz3
                intro v5 w5 hown5 hgr5 _
                have HO5 : Hid (w5.ownsRow w.heap.size 5 1 v5 (t ++ ln).length (strCells ⟨(t ++ ln).toArray⟩)) := by
                  show World.ownsRow _ _ _ _ _ _ _
                  rw [str_app, List.length_append, show ln.length = (⟨ln.toArray⟩ : ByteArray).size by simp [ByteArray.size]]; exact hown5
                have HB5 : Hid (Below w.heap.size w w5) := HB3.out.grown hgr5 hz3 (fun q hq => (HO3.out.lt q hq).1)
                have HT5 : Hid (t ++ ln = textT (L.take (k + 1))) := by show _ = _; rw [HTX.out, HT.out]
                clear hown5 hgr5
                go_wp2
                go_roundw
                case rel => exact ⟨k + 1, o - 1, t ++ ln, by go_num, by go_num, by omega, by omega, by simp; omega, HT5, HO5, HTD, HB5⟩
                case measure => simp [intOf]; omega
              · have hwk : IntKind.i64.wrap (4 - 1) = 3 := by decide
                have hwk2 : IntKind.i64.wrap 3 = 3 := by decide
                have HNX : Hid (nextT o 4 = o - 1) := by show _ = _; unfold nextT; simp
                have HLN : Hid (lineT (4, zs) = (99 :: wrdsT zs) ++ [10]) := rfl
                have HCL : Hid (∀ W', Below w2.heap.size w2 W' → Calls Tryz.prog 100 #[.string ((⟨#[98, 100, 104, 99]⟩ : ByteArray).extract 3 4), .slice (some ⟨bl, ol, none⟩) zs.length ci] W' fun e w' => e = .returned (.string ⟨(lineT (4, zs)).toArray⟩) ∧ w'.cell? ⟨wr.heap.size, 0, none⟩ = some (.int .i64 4) ∧ w'.cell? ⟨wr.heap.size, 1, none⟩ = some (.slice (some ⟨bl, ol, none⟩) zs.length ci) ∧ Hid (Below w2.heap.size w2 w')) := fun W' hW' => by
                  have hx : (⟨#[98, 100, 104, 99]⟩ : ByteArray).extract 3 4 = ⟨([99] : List UInt8).toArray⟩ := by rw [Lib.extract_eq]; rfl
                  rw [hx]
                  have hWW : Below wr.heap.size wr W' := HB1.out.trans (hW'.mono HB1.out.size)
                  refine (rlineT_any bl ol zs.length ci [99] zs W' rfl hz20 (by simp) (Nat.lt_of_lt_of_le hbl2 hWW.size) hzb (fun i hi => (hWW.cell (by exact hbl2)).trans (hcl i hi))).mono ?_
                  rintro e w' ⟨h1, h2⟩
                  have h3 : Below w2.heap.size w2 w' := hW'.trans (h2.mono hW'.size)
                  exact ⟨by rw [h1, HLN.out]; rfl, (h3.cell (by exact lm)).trans m0, (h3.cell (by exact lm)).trans m1, h3⟩
                have hll : (lineT (4, zs)).length ≤ 230 := HLL.out hok
                rw [HNX.out] at HTD
                clear hcl hzb hok HLL HND HLI
                generalize lineT (4, zs) = ln at *
                go_wp2_with fail
                go_region_held3 (fun w' => w'.cell? ⟨wr.heap.size, 0, none⟩ = some (.int .i64 4) ∧ w'.cell? ⟨wr.heap.size, 1, none⟩ = some (.slice (some ⟨bl, ol, none⟩) zs.length ci)) (go_keep) (first | (go_at_call 100; refine (HCL.out _ (by first | exact Below.refl _ _ | exact (Below.refl _ _).drew)).mono ?_; rintro e3 w3 ⟨rfl, s0, s1, HF3⟩))
                have HB3 : Hid (Below w.heap.size w w3) := HB.out.trans ((HB1.out.trans (HF3.out.mono HB1.out.size)).mono HB.out.size)
                have HO3 : Hid (w3.ownsRow w.heap.size 5 1 (.slice av t.length cv) t.length (strCells ⟨t.toArray⟩)) := own_below (own_below HO.out HB1.out) (HF3.out.mono (Nat.le_refl _))
                have hz3 := HB3.out.size
                clear HCL HF3 s0 s1 m0 m1
                go_wp2_with (at_builtin; refine wpList_append_own_string _ rfl _ _ 144 9 rfl w.heap.size 5 i0 Tryz.underlying144 Tryz.underlying9 hi hz0 hz1 hz2 _ _ _ rfl HO3.out ⟨ln.toArray⟩ rfl ?c1 ?c2 ?c3 ?_)
                case c1 => unfold maxLen; have : (⟨ln.toArray⟩ : ByteArray).size = ln.length := by simp [ByteArray.size]
                           omega
                case c2 => have : (⟨ln.toArray⟩ : ByteArray).size = ln.length := by simp [ByteArray.size]
                           omega
                case c3 => exact hz3
                intro v5 w5 hown5 hgr5 _
                have HO5 : Hid (w5.ownsRow w.heap.size 5 1 v5 (t ++ ln).length (strCells ⟨(t ++ ln).toArray⟩)) := by
                  show World.ownsRow _ _ _ _ _ _ _
                  rw [str_app, List.length_append, show ln.length = (⟨ln.toArray⟩ : ByteArray).size by simp [ByteArray.size]]; exact hown5
                have HB5 : Hid (Below w.heap.size w w5) := HB3.out.grown hgr5 hz3 (fun q hq => (HO3.out.lt q hq).1)
                have HT5 : Hid (t ++ ln = textT (L.take (k + 1))) := by show _ = _; rw [HTX.out, HT.out]
                clear hown5 hgr5
                go_wp2
                go_roundw
                case rel => exact ⟨k + 1, o - 1, t ++ ln, by go_num, by go_num, by omega, by omega, by simp; omega, HT5, HO5, HTD, HB5⟩
                case measure => simp [intOf]; omega
    · obtain rfl : k = L.length := by omega
      have HBT : Hid (bt = (o == 0)) := by show _ = _; rw [HG.out, List.drop_length]; rfl
      have kc := conv_own HO.out
      by_cases h0 : o = 0
      · subst h0
        have HA : Hid (ans = (t, 0)) := by show _ = _; rw [HWR.out, HBT.out, if_pos (by rfl), HT.out, List.take_length]
        clear HG HBT
        go_wp2_with fail
        refine bodyPost_ret (v := .tuple #[.string ⟨t.toArray⟩, .int .i64 0]) (by simp [results, Tryz.results75, go_sem]) rfl ?_
        exact ⟨by rw [HA.out], HB.out⟩
      · have e0 : decide (0 < (o : Int)) = true := by simp; omega
        have e0n : decide (0 < o) = true := by simp; omega
        have HA : Hid (ans = ([], 14)) := by show _ = _; rw [HWR.out, HBT.out, if_neg (by simpa using h0)]
        clear HG HBT h0
        go_wp2_with fail
        refine bodyPost_ret (v := .tuple #[.string ⟨#[]⟩, .int .i64 14]) (by simp [results, Tryz.results75, go_sem]) rfl ?_
        exact ⟨by rw [HA.out], HB.out⟩
end Go.Proofs.YtebinaopncclgabGreatDoor
