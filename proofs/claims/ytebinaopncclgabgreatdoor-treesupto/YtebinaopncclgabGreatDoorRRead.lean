/- Walks of the document's answer: the text of a tree is read. -/
import Derived.Test.YtebinaopncclgabGreatDoorRNode
import Derived.Test.YtebinaopncclgabGreatDoorTRead
namespace Go.Proofs.YtebinaopncclgabGreatDoor
open Go.RowKit Go.IntWalk

set_option maxRecDepth 100000 in
set_option maxHeartbeats 4000000 in
theorem rread_any (s : ByteArray) (w : World) (hs : s.size ≤ 2000000) : Calls Tryz.prog 69 #[.string s] w (ReadLeft w (readT s.data.toList)) := by
  obtain ⟨i0, hi, hz0, hz1, hz2⟩ := info_parts Tryz.infoNode
  have HCS := hid (fun W => rsplit_any 10 s W hs)
  have hsl := splitR_count 10 s.data.toList
  rw [show s.data.toList.length = s.size by simp] at hsl
  have HRT : Hid (readT s.data.toList = goT 1 [] (splitR 10 s.data.toList)) := rfl
  rw [split_R] at HCS
  have HPC : Hid (∀ q ∈ splitR 10 s.data.toList, q.length ≤ s.size) := fun q hq => by have := split_piece 10 s.data.toList q hq; simpa using this
  have hne : 0 < (splitR 10 s.data.toList).length := List.length_pos_iff.2 (splitR_ne 10 s.data.toList)
  generalize readT s.data.toList = ans at *
  generalize splitR 10 s.data.toList = L at *
  go_enter Tryz.func69, Tryz.ntmps69
  go_wp2_with fail
  refine (HCS.out _).mono ?_
  rintro e1 w1 ⟨v1, rfl, ho1, hb1⟩
  obtain ⟨g, cap, cur, rfl, hgb, hgc, _⟩ := own_shape ho1 hne
  have hgl : g < w1.heap.size := (Array.getElem?_eq_some_iff.1 hgc).1
  have HB1 := hid hb1
  have HO1 := hid ho1
  clear ho1 hb1 hgc HCS hgb
  go_wp2_with fail
  go_loopw [6, 7, 8] (fun v op i wr => ∃ (k o : Nat) (acc : List NodeT), i = .int .i64 k ∧ op = .int .i64 o ∧ k + 1 ≤ L.length ∧ o ≤ k + 1 ∧ acc.length = k ∧ Hid (NodesR wr w1.heap.size v acc) ∧ Hid (Below w1.heap.size w1 wr) ∧ Hid (ans = goT o acc (L.drop k))) (fun _ _ i _ => L.length - (intOf i).toNat)
  case atStart => exact ⟨0, 1, [], rfl, rfl, by omega, by omega, rfl, NodesR.nil _ _, by first | exact Below.refl _ _ | exact below1 _ _, by simpa using HRT⟩
  case round =>
    obtain ⟨k, o, acc, rfl, rfl, hk, ho, hacc, HN, HB, HG⟩ := hrel
    by_cases hlt : k + 1 < L.length
    · have x0 : wr.cell? ⟨g, k, none⟩ = some (.string ⟨L[k].toArray⟩) := (HB.out.cell (by exact hgl)).trans (by rw [HO1.out.cellAt k (by omega)]; simp [strs])
      have hgw : g < wr.heap.size := Nat.lt_of_lt_of_le hgl HB.out.size
      have HD : Hid (L.drop k = L[k] :: L.drop (k + 1)) := List.drop_eq_getElem_cons (by omega)
      have HD2 : Hid (L.drop (k + 1) = L[k + 1] :: L.drop (k + 2)) := List.drop_eq_getElem_cons (by omega)
      have HGO : Hid (ans = if o = 0 then ([], acc.length + 1, 14) else match nodeT L[k] with | none => ([], acc.length + 1, 14) | some nd => goT (nextT o nd.1) (acc ++ [nd]) (L.drop (k + 1))) := by
        show _ = _
        rw [HG.out, HD.out, HD2.out, goT_two]
        by_cases h : o = 0
        · rw [if_pos h, if_pos h]
        · rw [if_neg h, if_neg h]; cases nodeT L[k] <;> rfl
      have HCN : Hid (∀ W, Calls Tryz.prog 126 #[.string ⟨L[k].toArray⟩] W (NodedLeft W (nodeT L[k]))) := fun W => by
        have h := noded_any ⟨L[k].toArray⟩ W (by show L[k].toArray.size ≤ _; have := HPC.out L[k] (List.getElem_mem _); simp; omega)
        simpa using h
      generalize L[k] = x at *
      clear HD HD2 HG
      obtain ⟨vs, hv1, hv2, hv3⟩ := HN.out
      obtain ⟨av, cv, rfl, _, _⟩ := own_val hv2
      have HV1 := hid hv1
      have HV2 := hid hv2
      have HV3 := hid hv3
      have HAC := hid hacc
      rw [hacc] at HV2 HGO ⊢
      clear hacc
      clear hv1 hv2 hv3 HN
      have bl : decide ((k : Int) + 1 < (L.length : Int)) = true := by simp; omega
      cases hx : nodeT x with
      | none =>
        have HR : Hid (ans = ([], k + 1, 14)) := by
          show _ = _
          rw [HGO.out, hx]
          by_cases h : o = 0
          · rw [if_pos h]
          · rw [if_neg h]
        rw [hx] at HCN
        clear HGO hx
        go_wp2_with fail
        refine (HCN.out _).mono ?_
        rintro e2 w2 ⟨⟨kk, ao, n, c, rfl, _⟩, hb2⟩
        have HB2 : Hid (Below w1.heap.size w1 w2) := HB.out.trans (hb2.mono HB.out.size)
        clear hb2 HCN
        dsimp only [Option.isSome]
        go_wp2_with fail
        refine bodyPost_ret (v := .tuple #[.slice none 0 0, .int .i64 ((k : Int) + 1), .int .i64 14]) (by simp [results, Tryz.results69, go_sem]) rfl ?_
        exact ⟨fun _ => by rw [HR.out]; rfl, fun h => (by rw [HR.out] at h; cases h), by first | exact HB1.out.trans (HB2.out.mono HB1.out.size) | exact HB1.out.trans ((HB2.out.alloc HB2.out.size _).mono HB1.out.size)⟩
      | some nd =>
        by_cases h0 : o = 0
        · have HR : Hid (ans = ([], k + 1, 14)) := by show _ = _; rw [HGO.out, if_pos h0]
          rw [hx] at HCN
          subst h0
          clear HGO hx
          go_wp2_with fail
          refine (HCN.out _).mono ?_
          rintro e2 w2 ⟨⟨kk, ao, n, c, rfl, _⟩, hb2⟩
          have HB2 : Hid (Below w1.heap.size w1 w2) := HB.out.trans (hb2.mono HB.out.size)
          clear hb2 HCN
          dsimp only [Option.isSome]
          go_wp2_with fail
          refine bodyPost_ret (v := .tuple #[.slice none 0 0, .int .i64 ((k : Int) + 1), .int .i64 14]) (by simp [results, Tryz.results69, go_sem]) rfl ?_
          exact ⟨fun _ => by rw [HR.out]; rfl, fun h => (by rw [HR.out] at h; cases h), by first | exact HB1.out.trans (HB2.out.mono HB1.out.size) | exact HB1.out.trans ((HB2.out.alloc HB2.out.size _).mono HB1.out.size)⟩
        · have HR : Hid (ans = goT (nextT o nd.1) (acc ++ [nd]) (L.drop (k + 1))) := by show _ = _; rw [HGO.out, if_neg h0, hx]
          rw [hx] at HCN
          have b0 : ((o : Int) == 0) = false := by simpa using h0
          clear HGO hx
          go_wp2_with fail
          refine (HCN.out _).mono ?_
          rintro e2 w2 ⟨⟨kk, al, n, cl, rfl, q2⟩, hb2⟩
          obtain ⟨rfl, rfl, ho2⟩ := q2 nd rfl
          have HB2 : Hid (Below w1.heap.size w1 w2) := HB.out.trans (hb2.mono HB.out.size)
          have HL2 := hid (own_base ho2 HB.out.size)
          have HN2 := hid (own_below HV2.out hb2)
          have HR2 : Hid (∀ i (h : i < acc.length), w2.ownsRow w1.heap.size 3 1 (vs.getD i (.slice none 0 0)) acc[i].2.length (ints acc[i].2)) := fun i h => own_below (HV3.out i h) hb2
          have hz2w := HB2.out.size
          clear hb2 q2 ho2 HCN
          dsimp only [Option.isSome]
          go_wp2_with (first
            | (at_builtin; refine wpList_append_own _ rfl _ _ 56 rfl w1.heap.size 76 i0 (.agg #[.int .i64 0, .slice none 0 0]) 2 32 Tryz.underlying56 hi hz0 hz1 hz2 rfl (by decide) _ _ _ rfl ((HN2.out.alloc _).alloc _) ⟨w2.heap.size + 1, 0, none⟩ 1 1 [.int .i64 nd.1, .slice al nd.2.length cl] rfl rfl ?c1 ?c2 ?c3 ?c4 ?c5 ?_)
            | fail)
          case c1 => exact news_t (w := w2.alloc _) rfl rfl (by simp)
          case c2 => intro u hu; simp at hu; rcases hu with rfl | rfl <;> rfl
          case c3 => unfold maxLen; omega
          case c4 => omega
          case c5 => simp; omega
          intro v3 w3 hown3 hgr3 _
          have hX : Below w2.heap.size w2 ((w2.alloc (.cells #[.int .i64 nd.1, .slice al nd.2.length cl] 76)).alloc (.cells #[.int .i64 nd.1, .slice al nd.2.length cl] 76)) := below2 w2 _ _
          have HN3 : Hid (NodesR w3 w1.heap.size v3 (acc ++ [nd])) := NodesR.push HV1.out (by rw [HAC.out]; exact HN2.out) HR2.out HL2.out hX hgr3 (by rw [HAC.out]; exact hown3)
          have HB3 : Hid (Below w1.heap.size w1 w3) := (HB2.out.trans (hX.mono hz2w)).grown hgr3 (by simp; omega) (fun q hq => (HN2.out.lt q hq).1)
          have hbx : w3.heap[w2.heap.size]? = some (.cells #[.int .i64 nd.1, .slice al nd.2.length cl] 76 (0, 0)) := by
            have h4 : ((w2.alloc (.cells #[.int .i64 nd.1, .slice al nd.2.length cl] 76)).alloc (.cells #[.int .i64 nd.1, .slice al nd.2.length cl] 76)).heap[w2.heap.size]? = some (.cells #[.int .i64 nd.1, .slice al nd.2.length cl] 76 (0, 0)) := by
              rw [Below.heap_alloc _ _ _ (by simp)]; exact heap_alloc_new w2 _
            rw [hgr3.block _ (Array.getElem?_eq_some_iff.1 h4).1 (fun he => by have := (HN2.out.lt _ he.symm).2; omega)]; exact h4
          have n0 : w3.cell? ⟨w2.heap.size, 0, none⟩ = some (.int .i64 nd.1) := cell_of_row w3 w2.heap.size 0 _ _ _ hbx
          have hbl : w2.heap.size < w3.heap.size := (Array.getElem?_eq_some_iff.1 hbx).1
          clear hX hown3 hgr3 hbx
          obtain ⟨vs3, q1, q2, q3⟩ := HN3.out
          obtain ⟨a3, c3, rfl, _, _⟩ := own_val q2
          clear q1 q2 q3
          by_cases h1 : nd.1 = 1
          · have b1 : (nd.1 == 1) = true := by simpa using h1
            have HNX : Hid (nextT o nd.1 = o + 1) := by show _ = _; unfold nextT; rw [if_pos h1]
            clear h1
            go_wp2_with fail
            go_roundw
            case rel => exact ⟨k + 1, o + 1, acc ++ [nd], by go_num, by go_num, by omega, by omega, by simp [HAC.out], (by have h9 := HN3.out; rw [List.length_append] at h9; first | exact h9 | exact HN3), HB3, by rw [← HNX.out]; exact HR⟩
            case measure => simp [intOf]; omega
          · have b1 : (nd.1 == 1) = false := by simpa using h1
            have HNX : Hid (nextT o nd.1 = o - 1) := by show _ = _; unfold nextT; rw [if_neg h1]
            clear h1
            go_wp2_with fail
            go_roundw
            case rel => exact ⟨k + 1, o - 1, acc ++ [nd], by go_num, by go_num, by omega, by omega, by simp [HAC.out], (by have h9 := HN3.out; rw [List.length_append] at h9; first | exact h9 | exact HN3), HB3, by rw [← HNX.out]; exact HR⟩
            case measure => simp [intOf]; omega
    · have hLk : L.length = k + 1 := by omega
      have x0 : wr.cell? ⟨g, k, none⟩ = some (.string ⟨(L[k]'(by omega)).toArray⟩) := (HB.out.cell (by exact hgl)).trans (by rw [HO1.out.cellAt k (by omega)]; simp [strs])
      have hgw : g < wr.heap.size := Nat.lt_of_lt_of_le hgl HB.out.size
      have HGO : Hid (ans = if L[k]'(by omega) = [] ∧ o = 0 then (acc, 0, 0) else ([], acc.length + 1, 14)) := by
        show _ = _
        rw [HG.out, List.drop_eq_getElem_cons (by omega), List.drop_eq_nil_of_le (by omega), goT_one]
      generalize L[k]'(by omega) = x at *
      obtain ⟨vs, hv1, hv2, hv3⟩ := HN.out
      obtain ⟨av, cv, rfl, _, _⟩ := own_val hv2
      have HAC := hid hacc
      clear hv1 hv2 hv3 HG
      rw [hLk]
      by_cases hx : x = []
      · subst hx
        by_cases h0 : o = 0
        · subst h0
          have HR : Hid (ans = (acc, 0, 0)) := by show _ = _; rw [HGO.out, if_pos ⟨rfl, rfl⟩]
          clear HGO hacc hLk
          go_wp2_with fail
          refine bodyPost_ret (v := .tuple #[.slice av acc.length cv, .int .i64 0, .int .i64 0]) (by simp [results, Tryz.results69, go_sem]) rfl ?_
          refine ⟨fun h => absurd (by rw [HR.out]) h, fun _ => ⟨_, rfl, ?_⟩, HB1.out.trans (HB.out.mono HB1.out.size)⟩
          rw [HR.out]
          exact HN.out.base HB1.out.size
        · have HR : Hid (ans = ([], k + 1, 14)) := by show _ = _; rw [HGO.out, if_neg (fun h => h0 h.2), HAC.out]
          have b0 : decide (0 < (o : Int)) = true := by simp; omega
          clear HGO hacc hLk
          go_wp2_with fail
          refine bodyPost_ret (v := .tuple #[.slice none 0 0, .int .i64 ((k : Int) + 1), .int .i64 14]) (by simp [results, Tryz.results69, go_sem]) rfl ?_
          exact ⟨fun _ => by rw [HR.out]; rfl, fun h => (by rw [HR.out] at h; cases h), HB1.out.trans (HB.out.mono HB1.out.size)⟩
      · have HR : Hid (ans = ([], k + 1, 14)) := by show _ = _; rw [HGO.out, if_neg (fun h => hx h.1), HAC.out]
        have b0 : x.isEmpty = false := by simpa using hx
        clear HGO hacc hLk
        go_wp2_with fail
        refine bodyPost_ret (v := .tuple #[.slice none 0 0, .int .i64 ((k : Int) + 1), .int .i64 14]) (by simp [results, Tryz.results69, go_sem]) rfl ?_
        exact ⟨fun _ => by rw [HR.out]; rfl, fun h => (by rw [HR.out] at h; cases h), HB1.out.trans (HB.out.mono HB1.out.size)⟩
end Go.Proofs.YtebinaopncclgabGreatDoor
