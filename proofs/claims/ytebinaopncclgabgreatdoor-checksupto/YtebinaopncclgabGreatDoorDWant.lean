/- Walks of the document's answer: the wants, the length and the times of a route. -/
import Derived.Test.YtebinaopncclgabGreatDoorDPlain
import Derived.Test.YtebinaopncclgabGreatDoorRefA
import Derived.Test.YtebinaopncclgabGreatDoorJArea
import Derived.Test.YtebinaopncclgabGreatDoorGrdZ
namespace Go.Proofs.YtebinaopncclgabGreatDoor
open Go.RowKit Go.IntWalk

set_option maxRecDepth 100000 in
set_option maxHeartbeats 2000000 in
theorem planned_any (n : Nat) (s : ByteArray) (w : World) (_hn : n ≤ 7) (hs : s.size ≤ 2000000) :
    Calls Tryz.prog 106 #[.string s, .int .i64 n] w fun e w' => e = .returned (.bool (plannedS n s.data.toList)) ∧ Below w.heap.size w w' := by
  have HC := hid (rsplit_any 47 s w hs)
  have HV : Hid (s.toList.isEmpty = s.data.toList.isEmpty) := is_void s
  have hcnt := split_count 47 s.data.toList
  have hl1 : 1 ≤ (splitB 47 s.data.toList).length := by unfold splitB; simp
  have HLN := hid (splitB_len 47 s.data.toList)
  have hln : s.data.toList.length = s.size := by simp
  cases hem : s.data.toList.isEmpty
  · have HF : Hid (plannedS n s.data.toList = (splitB 47 s.data.toList).all (okP n)) := by show _ = _; unfold plannedS; rw [hem]; rfl
    have hv : s.toList.isEmpty = false := by rw [HV.out, hem]
    generalize plannedS n s.data.toList = ans at *
    generalize splitB 47 s.data.toList = ls at *
    have hl2 : ls.length ≤ 2000001 := by omega
    have HLE : Hid (∀ f ∈ ls, f.length ≤ 2000000) := fun f hf => by have := HLN.out f hf; omega
    clear hcnt hln HLN hem HV
    go_enter Tryz.func106, Tryz.ntmps106
    go_wp2_with fail
    refine HC.out.mono ?_
    rintro e1 w1 ⟨v1, rfl, hown1, hb1⟩
    obtain ⟨g, cap, cur, rfl, _, hg, hcap⟩ := own_shape hown1 (by omega)
    have hgl : g < w1.heap.size := (Array.getElem?_eq_some_iff.1 hg).1
    have HO := hid hown1
    have HB1 := hid hb1
    clear HC hown1 hg hb1
    go_wp2_with fail
    go_loopw [6] (fun i wr => ∃ k : Nat, k ≤ ls.length ∧ i = .int .i64 k ∧ Hid ((ls.take k).all (okP n) = true) ∧ Hid (Below w1.heap.size w1 wr)) (fun i _ => ls.length - (intOf i).toNat)
    case atStart => exact ⟨0, Nat.zero_le _, rfl, rfl, Below.refl _ _⟩
    case round =>
      obtain ⟨k, hk, rfl, HA, HB⟩ := hrel
      by_cases hlt : k < ls.length
      · obtain ⟨p, hp⟩ : ∃ p : ByteArray, p = ⟨(ls[k]).toArray⟩ := ⟨_, rfl⟩
        have HCC : Hid (w1.cell? ⟨g, k, none⟩ = some (.string p)) := by show _ = _; rw [HO.out.cellAt k (by omega), hp]; simp [strs, hlt]
        have hcell : wr.cell? ⟨g, k, none⟩ = some (.string p) := (HB.out.cell (by exact hgl)).trans HCC.out
        have hgw : g < wr.heap.size := Nat.lt_of_lt_of_le hgl HB.out.size
        have hpl : p.data.toList = ls[k] := by rw [hp]
        have hps : p.size ≤ 2000000 := by
          have h1 := HLE.out _ (List.getElem_mem hlt)
          have h2 : p.size = p.data.toList.length := by simp
          rw [h2, hpl]; exact h1
        have HT : Hid ((ls.take (k + 1)).all (okP n) = okP n p.data.toList) := by
          show _ = _
          rw [List.take_succ_eq_append_getElem hlt, List.all_append, HA.out, hpl]; simp
        have HNO : Hid (okP n p.data.toList = false → ans = false) := fun h => by
          rw [HF.out]; exact List.all_eq_false.2 ⟨ls[k], List.getElem_mem hlt, by rw [← hpl, h]; simp⟩
        have HPV : Hid (p.toList.isEmpty = p.data.toList.isEmpty) := is_void p
        clear hp hpl
        cases hpe : p.data.toList.isEmpty
        · have hv2 : p.toList.isEmpty = false := by rw [HPV.out, hpe]
          have HPE := hid hpe
          clear hpe
          go_wp2_with go_in
          go_loopw [7] (fun j wr => ∃ q : Nat, q ≤ p.size ∧ j = .int .i64 q ∧ Hid (∀ t (h : t < p.size), t < q → okC n p[t] = true) ∧ Hid (Below w1.heap.size w1 wr)) (fun j _ => p.size - (intOf j).toNat)
          case atStart => exact ⟨0, Nat.zero_le _, rfl, fun t h h' => absurd h' (by omega), by first | exact HB.out | exact HB.out.drew⟩
          case round =>
            clear HB hcell hgw
            obtain ⟨q, hq, rfl, HQ, HB⟩ := hrel
            have hcell : wr.cell? ⟨g, k, none⟩ = some (.string p) := (HB.out.cell (by exact hgl)).trans HCC.out
            have hgw : g < wr.heap.size := Nat.lt_of_lt_of_le hgl HB.out.size
            by_cases hql : q < p.size
            · have hb : p[q].toNat < 256 := p[q].toNat_lt
              by_cases h49 : p[q].toNat < 49
              · have HX : Hid (ans = false) := HNO.out (by
                  unfold okP
                  have : p.data.toList.all (okC n) = false := List.all_eq_false.2 ⟨p[q], by show _ ∈ _; simp [ByteArray.getElem_eq_getElem_data], by unfold okC; simp; omega⟩
                  rw [this]; simp)
                go_wp2_with go_in
                all_goals
                  go_ret
                  exact ⟨ret_bool HX.out.symm, by first | exact HB1.out.trans (HB.out.mono HB1.out.size) | exact HB1.out.trans (HB.out.drew.mono HB1.out.size)⟩
              · by_cases hbig : n < p[q].toNat - 48
                · have HX : Hid (ans = false) := HNO.out (by
                    unfold okP
                    have : p.data.toList.all (okC n) = false := List.all_eq_false.2 ⟨p[q], by show _ ∈ _; simp [ByteArray.getElem_eq_getElem_data], by unfold okC; simp; omega⟩
                    rw [this]; simp)
                  go_wp2_with go_in
                  all_goals
                    go_ret
                    exact ⟨ret_bool HX.out.symm, by first | exact HB1.out.trans (HB.out.mono HB1.out.size) | exact HB1.out.trans (HB.out.drew.mono HB1.out.size)⟩
                · have HX : Hid (okC n p[q] = true) := by show _ = _; unfold okC; simp; omega
                  go_wp2_with go_in
                  go_roundw
                  case rel => exact ⟨q + 1, by omega, by go_num, fun t h h' => (by
                    by_cases ht : t = q
                    · subst ht; exact HX.out
                    · exact HQ.out t h (by omega)), by first | exact HB.out | exact HB.out.drew⟩
                  case measure => simp [intOf]; omega
            · have HX : Hid (okP n p.data.toList = true) := by
                show _ = _
                unfold okP
                rw [HPE.out]
                simp only [Bool.not_false, Bool.true_and]
                refine List.all_eq_true.2 fun c hc => ?_
                obtain ⟨t, ht, rfl⟩ := List.mem_iff_getElem.1 hc
                have hts : t < p.size := by simpa using ht
                exact HQ.out t hts (by omega)
              go_wp2_with go_in
              go_roundw
              case rel => exact ⟨k + 1, by omega, by go_num, by show _ = _; rw [HT.out]; exact HX.out, by first | exact HB.out | exact HB.out.drew⟩
              case measure => simp [intOf]; omega
        · have hv2 : p.toList.isEmpty = true := by rw [HPV.out, hpe]
          have HX : Hid (ans = false) := HNO.out (by unfold okP; rw [hpe]; rfl)
          clear hpe
          go_wp2_with go_in
          all_goals
            go_ret
            exact ⟨ret_bool HX.out.symm, by first | exact HB1.out.trans (HB.out.mono HB1.out.size) | exact HB1.out.trans (HB.out.drew.mono HB1.out.size)⟩
      · have HX : Hid (ans = true) := by show _ = _; rw [HF.out]; have := HA.out; rw [List.take_of_length_le (by omega)] at this; exact this
        go_wp2
        go_ret
        exact ⟨ret_bool HX.out.symm, HB1.out.trans (HB.out.mono HB1.out.size)⟩
  · have HF : Hid (plannedS n s.data.toList = true) := by show _ = _; unfold plannedS; rw [hem]; rfl
    have hv : s.toList.isEmpty = true := by rw [HV.out, hem]
    clear hem
    go_enter Tryz.func106, Tryz.ntmps106
    go_wp2
    all_goals
      go_ret
      exact ⟨ret_bool HF.out.symm, Below.refl _ _⟩

set_option maxRecDepth 100000 in
set_option maxHeartbeats 1000000 in
theorem often_any (d : Nat) (s : ByteArray) (w : World) (hd : d ≤ 10) (hs : s.size ≤ 2000000) :
    Calls Tryz.prog 172 #[.string s, .int .i64 d] w fun e w' => e = .returned (.int .i64 (cntS s.data.toList d)) ∧ w' = w := by
  go_enter Tryz.func172, Tryz.ntmps172
  go_wp2_with fail
  go_loop [5, 6] (fun c i => ∃ k m : Nat, i = .int .i64 k ∧ c = .int .i64 m ∧ k ≤ s.size ∧ m ≤ k ∧ Hid (cntS (s.data.toList.take k) d = m)) (fun _ i => s.size - (intOf i).toNat)
  case atStart => exact ⟨0, 0, rfl, rfl, by omega, by omega, rfl⟩
  case round =>
    obtain ⟨k, m, rfl, rfl, hk, hmk, HG⟩ := hrel
    by_cases hlt : k < s.size
    · have HT := take_snoc s k hlt
      have hb : s[k].toNat < 256 := s[k].toNat_lt
      by_cases hc : s[k].toNat = 48 + d
      · have HX : Hid (cntS (s.data.toList.take (k + 1)) d = m + 1) := by show _ = _; rw [HT, cnt_snoc, HG.out, if_pos hc]
        have e1 : ((s[k].toNat : Int) == 48 + (d : Int)) = true := by simp [hc]
        clear HT hc
        go_wp2
        go_round
        case rel => exact ⟨k + 1, m + 1, by go_num, by go_num, by omega, by omega, HX⟩
        case measure => simp [intOf]; omega
      · have HX : Hid (cntS (s.data.toList.take (k + 1)) d = m) := by show _ = _; rw [HT, cnt_snoc, HG.out, if_neg hc]; rfl
        have e1 : ((s[k].toNat : Int) == 48 + (d : Int)) = false := by simp; omega
        clear HT hc
        go_wp2
        go_round
        case rel => exact ⟨k + 1, m, by go_num, rfl, by omega, by omega, HX⟩
        case measure => simp [intOf]; omega
    · have HX : Hid (cntS s.data.toList d = m) := by have := HG.out; rw [take_all s k (by omega)] at this; exact this
      go_wp2
      go_ret
      exact ⟨ret_int (by rw [HX.out]), rfl⟩
end Go.Proofs.YtebinaopncclgabGreatDoor
namespace Go.Proofs.YtebinaopncclgabGreatDoor
open Go.RowKit Go.IntWalk

set_option maxRecDepth 100000 in
set_option maxHeartbeats 2000000 in
theorem route_any (s : ByteArray) (w : World) (hs : s.size ≤ 1000) :
    Calls Tryz.prog 174 #[.string s] w fun e w' => ∃ v, e = .returned v ∧ w'.ownsRow w.heap.size 3 1 v (routeS s.data.toList).length (ints (routeS s.data.toList)) ∧ Below w.heap.size w w' := by
  obtain ⟨i0, hi, hz0, hz1, hz2⟩ := info_parts Tryz.infoInt
  go_enter Tryz.func174, Tryz.ntmps174
  go_wp2_with fail
  go_loopw [3, 4] (fun rv i wr => ∃ (k : Nat) (zs : List Int), k ≤ s.size ∧ i = .int .i64 k ∧ 0 < zs.length ∧ zs.length ≤ k + 1 ∧ Hid (zs = 0 :: digV (s.data.toList.take k)) ∧ Hid (wr.ownsRow w.heap.size 3 1 rv zs.length (ints zs)) ∧ Hid (Below w.heap.size w wr)) (fun _ i _ => s.size - (intOf i).toNat)
  case atStart =>
    refine ⟨0, [0], Nat.zero_le _, rfl, by simp, by simp, rfl, ?_, below1 _ _⟩
    have := World.ownsRow_lit (base := w.heap.size) (e := 3) (size := 1) w #[.int .i64 0] 1 (by simp) (by unfold maxLen; omega) rfl
    show World.ownsRow _ _ _ _ _ _ _
    simpa [ints] using this
  case round =>
    obtain ⟨k, zs, hk, rfl, hl0, hl1, HZ, HR, HB⟩ := hrel
    have hsz := HB.out.size
    obtain ⟨g, capr, curr, rfl, _, _, hcr⟩ := own_shape HR.out hl0
    by_cases hlt : k < s.size
    · have HT := hid (take_snoc s k hlt)
      have hb : s[k].toNat < 256 := s[k].toNat_lt
      have HN : Hid (zs ++ [(s[k].toNat : Int) - 48] = 0 :: digV (s.data.toList.take (k + 1))) := by show _ = _; rw [HT.out, HZ.out]; simp [digV]
      go_wp2_with (at_builtin; refine wpList_append_own _ rfl _ _ 40 rfl w.heap.size 3 i0 (.int .i64 0) 1 8 Tryz.underlying40 hi hz0 hz1 hz2 rfl (by decide) _ _ _ rfl (HR.out.alloc _) ⟨wr.heap.size, 0, none⟩ 1 1 [.int .i64 ((s[k].toNat : Int) - 48)] rfl rfl ?c1 ?c2 ?c3 ?c4 ?c5 ?_)
      case c1 => exact cell_one_new _ _ _
      case c2 => intro u hu; simp at hu; subst hu; rfl
      case c3 => unfold maxLen; omega
      case c4 => omega
      case c5 => simp; omega
      intro v1 w1 hown1 hgr1 _
      have hgg1 : (wr.alloc (.cells #[.int .i64 ((s[k].toNat : Int) - 48)] 3)).grownBy w1 (Value.slice (some ⟨g, 0, none⟩) zs.length capr).ownBlock := hgr1
      have R := own_int (w := w) hsz HR.out HB.out hown1 hgg1
      obtain ⟨ys, hys⟩ : ∃ ys, ys = zs ++ [(s[k].toNat : Int) - 48] := ⟨_, rfl⟩
      have hyl : ys.length = zs.length + 1 := by rw [hys]; simp
      have HR1 : Hid (w1.ownsRow w.heap.size 3 1 v1 ys.length (ints ys)) := by
        show World.ownsRow _ _ _ _ _ _ _
        rw [hys]; exact R.1
      have HB1 := hid R.2
      rw [← hys] at HN
      clear hown1 hgr1 hgg1 HR HB hys R
      have hy0 : 0 < ys.length := by omega
      have hy1 : ys.length ≤ k + 1 + 1 := by omega
      clear hyl
      go_wp2
      go_roundw
      case rel => exact ⟨k + 1, ys, by omega, by go_num, hy0, hy1, HN, HR1, HB1⟩
      case measure => simp [intOf]; omega
    · have HF : Hid (routeS s.data.toList = zs ++ [0]) := by
        show _ = _
        rw [HZ.out, take_all s k (by omega)]; rfl
      go_wp2_with (at_builtin; refine wpList_append_own _ rfl _ _ 40 rfl w.heap.size 3 i0 (.int .i64 0) 1 8 Tryz.underlying40 hi hz0 hz1 hz2 rfl (by decide) _ _ _ rfl (HR.out.alloc _) ⟨wr.heap.size, 0, none⟩ 1 1 [.int .i64 0] rfl rfl ?c1 ?c2 ?c3 ?c4 ?c5 ?_)
      case c1 => exact cell_one_new _ _ _
      case c2 => intro u hu; simp at hu; subst hu; rfl
      case c3 => unfold maxLen; omega
      case c4 => omega
      case c5 => simp; omega
      intro v1 w1 hown1 hgr1 _
      have hgg1 : (wr.alloc (.cells #[.int .i64 0] 3)).grownBy w1 (Value.slice (some ⟨g, 0, none⟩) zs.length capr).ownBlock := hgr1
      have R := own_int (w := w) hsz HR.out HB.out hown1 hgg1
      have HR1 := hid R.1
      have HB1 := hid R.2
      clear hown1 hgr1 hgg1 HR HB R
      go_wp2
      go_ret
      refine ⟨_, rfl, ?_, HB1.out⟩
      rw [HF.out]; exact HR1.out

set_option maxRecDepth 100000 in
set_option maxHeartbeats 2000000 in
theorem rroutes_any (s : ByteArray) (w : World) (hs : s.size ≤ 1000) :
    Calls Tryz.prog 108 #[.string s] w fun e w' => ∃ v vs, e = .returned v ∧ Rts w' w.heap.size w'.heap.size v (routesS s.data.toList) vs ∧ Below w.heap.size w w' := by
  obtain ⟨j0, hj, hy0, hy1, hy2⟩ := info_parts Tryz.infoInts
  have HC := hid (rsplit_any 47 s w (by omega))
  have HV : Hid (s.toList.isEmpty = s.data.toList.isEmpty) := is_void s
  have hcnt := split_count 47 s.data.toList
  have hl1 : 1 ≤ (splitB 47 s.data.toList).length := by unfold splitB; simp
  have HLN := hid (splitB_len 47 s.data.toList)
  have hln : s.data.toList.length = s.size := by simp
  cases hem : s.data.toList.isEmpty
  · have hne : s.data.toList ≠ [] := fun e => by rw [e] at hem; cases hem
    have HF : Hid (routesS s.data.toList = (splitB 47 s.data.toList).map routeS) := routes_split _ hne
    have hv : s.toList.isEmpty = false := by rw [HV.out, hem]
    generalize routesS s.data.toList = ans at *
    generalize splitB 47 s.data.toList = ls at *
    have hl2 : ls.length ≤ 1001 := by omega
    have HLE : Hid (∀ f ∈ ls, f.length ≤ 1000) := fun f hf => by have := HLN.out f hf; omega
    clear hcnt hln HLN hem HV hne
    go_enter Tryz.func108, Tryz.ntmps108
    go_wp2_with fail
    refine HC.out.mono ?_
    rintro e1 w1 ⟨v1, rfl, hown1, hb1⟩
    obtain ⟨g, cap, cur, rfl, _, hg, hcap⟩ := own_shape hown1 (by omega)
    have hgl : g < w1.heap.size := (Array.getElem?_eq_some_iff.1 hg).1
    have HO := hid hown1
    have HB1 := hid hb1
    clear HC hown1 hg hb1
    go_wp2_with fail
    go_loopw [4, 5] (fun lv i wr => ∃ (k : Nat) (vs : List Value), k ≤ ls.length ∧ i = .int .i64 k ∧ vs.length ≤ 1001 ∧ Hid (Rts wr w1.heap.size wr.heap.size lv ((ls.take k).map routeS) vs) ∧ Hid (Below w1.heap.size w1 wr)) (fun _ i _ => ls.length - (intOf i).toNat)
    case atStart => exact ⟨0, [], Nat.zero_le _, rfl, by simp, Rts.nil _ _ _, Below.refl _ _⟩
    case round =>
      obtain ⟨k, vs, hk, rfl, hvl, HL, HB⟩ := hrel
      obtain ⟨al, capl, rfl, _, _⟩ := own_val HL.out.own
      by_cases hlt : k < ls.length
      · obtain ⟨p, hp⟩ : ∃ p : ByteArray, p = ⟨(ls[k]).toArray⟩ := ⟨_, rfl⟩
        have hcell : wr.cell? ⟨g, k, none⟩ = some (.string p) := by
          rw [HB.out.cell (by exact hgl), HO.out.cellAt k (by omega), hp]; simp [strs, hlt]
        have hgw : g < wr.heap.size := Nat.lt_of_lt_of_le hgl HB.out.size
        have hpl : p.data.toList = ls[k] := by rw [hp]
        have hps : p.size ≤ 1000 := by
          have h1 := HLE.out _ (List.getElem_mem hlt)
          have h2 : p.size = p.data.toList.length := by simp
          rw [h2, hpl]; exact h1
        have HT : Hid ((ls.take (k + 1)).map routeS = (ls.take k).map routeS ++ [routeS p.data.toList]) := by
          show _ = _
          rw [List.take_succ_eq_append_getElem hlt, List.map_append, hpl]; simp
        have hvk : vs.length ≤ 1000 := by have h1 := HL.out.len; simp at h1; omega
        have HC := hid (route_any p wr hps)
        have hzl : 0 < (routeS p.data.toList).length := by simp [routeS]
        generalize routeS p.data.toList = zs at *
        clear hp hpl
        go_wp2_with (first
          | (go_at_call 174; refine HC.out.mono ?_; rintro e2 w2 ⟨v2, rfl, hown2, hb2⟩; have HR2 := hid hown2; have HL2 := hid (HL.out.below hb2 (Nat.le_refl _)); have HB2 : Hid (Below w1.heap.size w1 w2) := HB.out.trans (hb2.mono HB.out.size); have hs12 := HB2.out.size; have hs2 := hb2.size; have hs1 := HB.out.size; clear hown2 hb2; obtain ⟨g2, cap2, cur2, rfl, _, _, _⟩ := own_shape HR2.out hzl)
          | (at_builtin; refine wpList_append_own _ rfl _ _ 31 rfl w1.heap.size 40 j0 (.slice none 0 0) 1 24 Tryz.underlying31 hj hy0 hy1 hy2 rfl (by decide) _ _ _ rfl ((HL2.out.own).alloc _) ⟨w2.heap.size, 0, none⟩ 1 1 [.slice (some ⟨g2, 0, none⟩) zs.length cap2] rfl rfl ?d1 ?d2 ?d3 ?d4 ?d5 ?_))
        case d1 => exact news_at rfl rfl
        case d2 => intro u hu; simp at hu; subst hu; rfl
        case d3 => unfold maxLen; omega
        case d4 => omega
        case d5 => simp; omega
        intro v3 w3 hown3 hgr3 _
        have hgg3 : (w2.alloc (.cells #[.slice (some ⟨g2, 0, none⟩) zs.length cap2] 40)).grownBy w3 (Value.slice al vs.length capl).ownBlock := hgr3
        have HL3 : Hid (Rts w3 w1.heap.size w3.heap.size v3 ((ls.take k).map routeS ++ [zs]) (vs ++ [.slice (some ⟨g2, 0, none⟩) zs.length cap2])) := HL2.out.push HR2.out hzl (by omega) (below1 w2 _) hgg3 hown3
        have HB3 : Hid (Below w1.heap.size w1 w3) := (HB2.out.trans ((below1 w2 _).mono (by omega))).grown hgg3 (by simp; omega) (fun x hx => (HL2.out.own.lt x hx).1)
        clear hown3 hgr3 hgg3 HR2 HL2 HB2 HL HB
        go_wp2
        go_roundw
        case rel => exact ⟨k + 1, vs ++ [.slice (some ⟨g2, 0, none⟩) zs.length cap2], by omega, by go_num, by simp; omega, by show Rts _ _ _ _ _ _; rw [HT.out]; exact HL3.out, HB3⟩
        case measure => simp [intOf]; omega
      · have HX : Hid (ans = (ls.take k).map routeS) := by show _ = _; rw [HF.out, List.take_of_length_le (by omega)]
        go_wp2
        go_ret
        refine ⟨_, vs, rfl, ?_, HB1.out.trans (HB.out.mono HB1.out.size)⟩
        rw [HX.out]; exact HL.out.base HB1.out.size
  · have he : s.data.toList = [] := by simpa using hem
    have HF : Hid (routesS s.data.toList = []) := by show _ = _; unfold routesS; rw [if_pos he]
    have hv : s.toList.isEmpty = true := by rw [HV.out, hem]
    clear hem he HC hl1 hcnt HLN hln
    go_enter Tryz.func108, Tryz.ntmps108
    go_wp2
    all_goals
      go_ret
      refine ⟨_, [], rfl, ?_, Below.refl _ _⟩
      rw [HF.out]; exact Rts.nil _ _ _
end Go.Proofs.YtebinaopncclgabGreatDoor
namespace Go.Proofs.YtebinaopncclgabGreatDoor
open Go.RowKit Go.IntWalk

/- a stop's numbers, read -/
theorem stop_at {r : Rd} (hok : RdOk r) {w : World} {ao : Option Addr} (hst : ∀ i (h : i < r.stops.length), ∃ g, ao = some ⟨g, 0, none⟩ ∧ g < w.heap.size ∧ ∀ j z, j < 5 → r.stops[i][j]? = some z → w.cell? ⟨g, i * 5 + j, none⟩ = some (.int .i64 z)) {m : Nat} (hm : m < r.stops.length) :
    ∃ g b0 b1 b2 b3 b4, ao = some ⟨g, 0, none⟩ ∧ g < w.heap.size ∧ w.cell? ⟨g, m * 5, none⟩ = some (.int .i64 b0) ∧ w.cell? ⟨g, m * 5 + 1, none⟩ = some (.int .i64 b1) ∧ w.cell? ⟨g, m * 5 + 2, none⟩ = some (.int .i64 b2) ∧ w.cell? ⟨g, m * 5 + 3, none⟩ = some (.int .i64 b3) ∧ w.cell? ⟨g, m * 5 + 4, none⟩ = some (.int .i64 b4) ∧
      (∀ j, stopV r (m + 1) j = [b0, b1, b2, b3, b4].getD j 0) ∧ (0 ≤ b1 ∧ b1 ≤ 10000) ∧ (0 ≤ b2 ∧ b2 ≤ 10000) ∧ (0 ≤ b3 ∧ b3 ≤ 10000) ∧ (0 ≤ b4 ∧ b4 ≤ 10000) := by
  obtain ⟨g, e, hg, hc⟩ := hst m hm
  obtain ⟨b0, b1, b2, b3, b4, hab, hsk⟩ := hok.stops _ (List.getElem_mem hm)
  have hcl : ∀ j z, j < 5 → [b0, b1, b2, b3, b4][j]? = some z → w.cell? ⟨g, m * 5 + j, none⟩ = some (.int .i64 z) := fun j z hj hz => hc j z hj (by rw [hab]; exact hz)
  have hg' : r.stops.getD m [] = [b0, b1, b2, b3, b4] := by rw [List.getD_eq_getElem?_getD, List.getElem?_eq_getElem hm, Option.getD_some, hab]
  have hbb : (0 ≤ b1 ∧ b1 ≤ 10000) ∧ (0 ≤ b2 ∧ b2 ≤ 10000) ∧ (0 ≤ b3 ∧ b3 ≤ 10000) ∧ (0 ≤ b4 ∧ b4 ≤ 10000) := by
    simp only [stopOk, Bool.and_eq_true, fit_iff, decide_eq_true_eq] at hsk
    omega
  exact ⟨g, b0, b1, b2, b3, b4, e, hg, hcl 0 b0 (by omega) rfl, hcl 1 b1 (by omega) rfl, hcl 2 b2 (by omega) rfl, hcl 3 b3 (by omega) rfl, hcl 4 b4 (by omega) rfl, fun j => by unfold stopV; rw [Nat.add_sub_cancel, hg'], hbb.1, hbb.2.1, hbb.2.2.1, hbb.2.2.2⟩

set_option maxRecDepth 100000 in
set_option maxHeartbeats 2000000 in
theorem wants_any (r : Rd) (l : List Int) (vs vr vw : Value) (gi ci : Nat) (w : World) (hok : RdOk r) (hs : StR w vs r) (hgi : gi < w.heap.size) (hrow : ∀ j (hj : j < l.length), w.cell? ⟨gi, j, none⟩ = some (.int .i64 l[j])) (hll : l.length ≤ 1000) (hx : ∀ x ∈ l, 0 ≤ x ∧ x < r.stops.length + 1) (hvr : ∃ ao n c, vr = .slice ao n c) (hvw : ∃ ao n c, vw = .slice ao n c) :
    Calls Tryz.prog 173 #[.agg (ground r vs vr vw), .slice (some ⟨gi, 0, none⟩) l.length ci] w fun e w' => e = .returned (.int .i64 (wantTo r l)) ∧ Below w.heap.size w w' := by
  obtain ⟨W, hW⟩ : ∃ W, W = w.alloc (.cells (ground r vs vr vw) 109) := ⟨_, rfl⟩
  obtain ⟨hbW, hbox, _, _, _, _, _, k5, _, _⟩ := ground_box hW
  have HBW := hid hbW
  have HS := hid (hs.below hbW)
  have HROW : Hid (∀ j (hj : j < l.length), W.cell? ⟨gi, j, none⟩ = some (.int .i64 l[j])) := fun j hj => (hbW.cell (by exact hgi)).trans (hrow j hj)
  have hgW : gi < W.heap.size := Nat.lt_of_lt_of_le hgi hbW.size
  have HWQ := hid hW
  have HX := hid hx
  have HOK := hid hok
  have hn := hok.nstops
  obtain ⟨a1, n1, c1, rfl⟩ := hvr
  obtain ⟨a2, n2, c2, rfl⟩ := hvw
  obtain ⟨ast, cs, rfl, hst⟩ := HS.out
  have HST := hid hst
  clear hs hrow hW hbW hx hok HS hgi hst
  unfold ground at *
  go_enter Tryz.func173, Tryz.ntmps173
  go_wp2_with fail
  go_loopw [5, 6] (fun sm i wr => ∃ (q : Nat) (T : Int), q ≤ l.length ∧ i = .int .i64 q ∧ sm = .int .i64 T ∧ (0 ≤ T ∧ T ≤ (q : Int) * 10000) ∧ Hid (T = wantTo r (l.take q)) ∧ Hid (Below W.heap.size W wr)) (fun _ i _ => l.length - (intOf i).toNat)
  case atStart => exact ⟨0, 0, Nat.zero_le _, rfl, rfl, by omega, rfl, by show Below _ _ _; rw [HWQ.out]; exact Below.refl _ _⟩
  case round =>
    obtain ⟨q, T, hq, rfl, rfl, hT, HQ, HB⟩ := hrel
    have hiw : gi < wr.heap.size := Nat.lt_of_lt_of_le hgW HB.out.size
    have hbw : w.heap.size < wr.heap.size := Nat.lt_of_lt_of_le hbox HB.out.size
    by_cases hql : q < l.length
    · obtain ⟨x, hx⟩ : ∃ x, x = l[q] := ⟨_, rfl⟩
      have hx1 := HX.out x (by rw [hx]; exact List.getElem_mem _)
      have x0 : wr.cell? ⟨gi, q, none⟩ = _ := (HB.out.cell (by exact hgW)).trans (HROW.out q hql)
      rw [← hx] at x0
      have HN : Hid (wantTo r (l.take (q + 1)) = T + (if x = 0 then 0 else stopV r x.toNat 1)) := by
        show _ = _
        rw [List.take_succ_eq_append_getElem hql, wantTo_snoc, ← HQ.out, ← hx]
      obtain ⟨xn, rfl⟩ : ∃ xn : Nat, x = xn := ⟨x.toNat, by omega⟩
      clear hx
      by_cases hz : xn = 0
      · subst hz
        go_wp2_with go_in
        go_roundw
        case rel => exact ⟨q + 1, T, by omega, by go_num, rfl, by omega, by show _ = _; rw [HN.out]; simp, by first | exact HB.out | exact HB.out.drew⟩
        case measure => simp [intOf]; omega
      · obtain ⟨m, rfl⟩ : ∃ m, xn = m + 1 := ⟨xn - 1, by omega⟩
        obtain ⟨sg, b0, b1, b2, b3, b4, rfl, hsg, s0, s1, s2, s3, s4, hV, hb1, _, _, _⟩ := stop_at HOK.out HST.out (show m < r.stops.length by omega)
        have hw1 : wr.cell? ⟨sg, m * 5 + 1, none⟩ = some (.int .i64 b1) := (HB.out.cell (by exact hsg)).trans s1
        have hp5 : wr.cell? ⟨w.heap.size, 5, none⟩ = _ := (HB.out.cell (by exact hbox)).trans k5
        have hsw : sg < wr.heap.size := Nat.lt_of_lt_of_le hsg HB.out.size
        have HN2 : Hid (wantTo r (l.take (q + 1)) = T + b1) := by
          show _ = _
          rw [HN.out, if_neg (by omega), show ((m + 1 : Nat) : Int).toNat = m + 1 by omega, hV]; rfl
        have iq : (0 : Int) ≤ (q : Int) := by omega
        have jq : (q : Int) < (l.length : Int) := by omega
        have im : (0 : Int) ≤ (m : Int) := by omega
        have jm : (m : Int) < (r.stops.length : Int) := by omega
        have hww : IntKind.i64.wrap ((m : Int) + 1 - 1) = m := by rw [show (m : Int) + 1 - 1 = m by omega]; exact i64_fits _ (by omega)
        have hww2 : IntKind.i64.wrap (m : Int) = m := i64_fits _ (by omega)
        have hws : IntKind.i64.wrap (T + b1) = T + b1 := i64_fits _ (by omega)
        clear hV HN hz s0 s1 s2 s3 s4
        go_wp2_with fail
        go_region_held3 (fun w' => w'.cell? ⟨w.heap.size, 5, none⟩ = some (.slice (some ⟨sg, 0, none⟩) r.stops.length cs) ∧ w'.cell? ⟨gi, q, none⟩ = some (.int .i64 ((m + 1 : Nat) : Int)) ∧ w'.cell? ⟨sg, m * 5 + 1, none⟩ = some (.int .i64 b1)) (go_keep) (fail)
        go_wp2
        go_roundw
        case rel => exact ⟨q + 1, T + b1, by omega, by go_num, rfl, by omega, HN2.out.symm, by first | exact HB.out | exact HB.out.drew⟩
        case measure => simp [intOf]; omega
    · have HTQ : Hid (T = wantTo r l) := by have := HQ.out; rw [List.take_of_length_le (by omega)] at this; exact this
      go_wp2_with go_in
      go_ret
      exact ⟨ret_int HTQ.out, by first | exact HBW.out.trans (HB.out.mono HBW.out.size) | exact HBW.out.trans (HB.out.drew.mono HBW.out.size)⟩

/- the length of a route, or none -/
def lengthS (D : Nat → Nat → Int) (l : List Int) : Int := if wayOk D l = true then rtTo D l (l.length - 1) else -1

set_option maxRecDepth 100000 in
set_option maxHeartbeats 2000000 in
theorem rlength_any (r : Rd) (D : Nat → Nat → Int) (l : List Int) (vs vr vw : Value) (gi ci : Nat) (w : World) (hq : SqR w vw (r.stops.length + 1) D) (hD : ∀ a b, a < r.stops.length + 1 → b < r.stops.length + 1 → -1 ≤ D a b ∧ D a b ≤ 40960000) (hgi : gi < w.heap.size) (hrow : ∀ j (hj : j < l.length), w.cell? ⟨gi, j, none⟩ = some (.int .i64 l[j])) (hll : l.length ≤ 1000) (hx : ∀ x ∈ l, 0 ≤ x ∧ x < r.stops.length + 1) (hvs : ∃ ao n c, vs = .slice ao n c) (hvr : ∃ ao n c, vr = .slice ao n c) :
    Calls Tryz.prog 109 #[.agg (ground r vs vr vw), .slice (some ⟨gi, 0, none⟩) l.length ci] w fun e w' => e = .returned (.int .i64 (lengthS D l)) ∧ Below w.heap.size w w' := by
  obtain ⟨W, hW⟩ : ∃ W, W = w.alloc (.cells (ground r vs vr vw) 109) := ⟨_, rfl⟩
  obtain ⟨hbW, hbox, _, _, _, _, _, _, _, k7⟩ := ground_box hW
  have HBW := hid hbW
  have HS := hid (hq.below hbW)
  have HROW : Hid (∀ j (hj : j < l.length), W.cell? ⟨gi, j, none⟩ = some (.int .i64 l[j])) := fun j hj => (hbW.cell (by exact hgi)).trans (hrow j hj)
  have hgW : gi < W.heap.size := Nat.lt_of_lt_of_le hgi hbW.size
  have HWQ := hid hW
  have HX : Hid (∀ x ∈ l, 0 ≤ x ∧ x < ((r.stops.length + 1 : Nat) : Int)) := fun x hm => by have := hx x hm; omega
  have HDD := hid hD
  obtain ⟨a1, n1, c1, rfl⟩ := hvr
  obtain ⟨a2, n2, c2, rfl⟩ := hvs
  obtain ⟨af, cf, rfl, hn, hsq⟩ := HS.out
  have HSQ := hid hsq
  generalize r.stops.length + 1 = n at *
  clear hq hrow hW hbW hx HS hgi hsq hD
  unfold ground at *
  go_enter Tryz.func109, Tryz.ntmps109
  go_wp2_with fail
  go_loopw [5, 6] (fun sm k wr => ∃ (q : Nat) (T : Int), q ≤ l.length - 1 ∧ k = .int .i64 (q + 1 : Nat) ∧ sm = .int .i64 T ∧ (-(q : Int) * 40960000 ≤ T ∧ T ≤ (q : Int) * 40960000) ∧ Hid (T = rtTo D l q) ∧ Hid (∀ j, j < q → legD D l j ≠ -1) ∧ Hid (Below W.heap.size W wr)) (fun _ k _ => l.length - (intOf k).toNat)
  case atStart => exact ⟨0, 0, Nat.zero_le _, rfl, rfl, by omega, rfl, fun j hj => absurd hj (by omega), by show Below _ _ _; rw [HWQ.out]; exact Below.refl _ _⟩
  case round =>
    obtain ⟨q, T, hq, rfl, rfl, hT, HQ, HOKQ, HB⟩ := hrel
    have hiw : gi < wr.heap.size := Nat.lt_of_lt_of_le hgW HB.out.size
    have hpw : w.heap.size < wr.heap.size := Nat.lt_of_lt_of_le hbox HB.out.size
    by_cases hql : q + 1 < l.length
    · obtain ⟨x, hx⟩ : ∃ x, x = l[q] := ⟨_, rfl⟩
      obtain ⟨y, hy⟩ : ∃ y, y = l[q + 1] := ⟨_, rfl⟩
      have hx1 := HX.out x (by rw [hx]; exact List.getElem_mem _)
      have hy1 := HX.out y (by rw [hy]; exact List.getElem_mem _)
      have x0 : wr.cell? ⟨gi, q, none⟩ = _ := (HB.out.cell (by exact hgW)).trans (HROW.out q (by omega))
      have y0 : wr.cell? ⟨gi, q + 1, none⟩ = _ := (HB.out.cell (by exact hgW)).trans (HROW.out (q + 1) hql)
      rw [← hx] at x0
      rw [← hy] at y0
      obtain ⟨xn, rfl⟩ : ∃ xn : Nat, x = xn := ⟨x.toNat, by omega⟩
      obtain ⟨yn, rfl⟩ : ∃ yn : Nat, y = yn := ⟨y.toNat, by omega⟩
      obtain ⟨fg, fgi, fci, rfl, hfg, hfc, hfgi, hfr⟩ := HSQ.out xn (by omega)
      have hd : wr.cell? ⟨fgi, yn, none⟩ = _ := (HB.out.cell (by exact hfgi)).trans (hfr yn (by omega))
      have hfw : wr.cell? ⟨fg, xn, none⟩ = _ := (HB.out.cell (by exact hfg)).trans hfc
      have hp7 : wr.cell? ⟨w.heap.size, 7, none⟩ = _ := (HB.out.cell (by exact hbox)).trans k7
      have hgf : fg < wr.heap.size := Nat.lt_of_lt_of_le hfg HB.out.size
      have hgif : fgi < wr.heap.size := Nat.lt_of_lt_of_le hfgi HB.out.size
      have hdb := HDD.out xn yn (by omega) (by omega)
      have iq : (0 : Int) ≤ (q : Int) := by omega
      have jq : (q : Int) < (l.length : Int) := by omega
      have iq1 : (0 : Int) ≤ (q : Int) + 1 := by omega
      have jq1 : (q : Int) + 1 < (l.length : Int) := by omega
      have ix : (0 : Int) ≤ (xn : Int) := by omega
      have jx : (xn : Int) < (n : Int) := by omega
      have iy : (0 : Int) ≤ (yn : Int) := by omega
      have jy : (yn : Int) < (n : Int) := by omega
      have hww : IntKind.i64.wrap ((q : Int) + 1 - 1) = q := by rw [show (q : Int) + 1 - 1 = q by omega]; exact i64_fits _ (by omega)
      have hww2 : IntKind.i64.wrap (q : Int) = q := i64_fits _ (by omega)
      have htn : ((q : Int) + 1).toNat = q + 1 := by omega
      have HD : Hid (legD D l q = D xn yn) := by
        show _ = _
        unfold legD
        rw [List.getD_eq_getElem?_getD, List.getD_eq_getElem?_getD, List.getElem?_eq_getElem (by omega), List.getElem?_eq_getElem hql, Option.getD_some, Option.getD_some, ← hx, ← hy]; simp
      generalize hdd : D xn yn = d at *
      clear hfr hx hy hdd
      by_cases hno : d = -1
      · subst hno
        have HF : Hid (lengthS D l = -1) := by
          show _ = _
          unfold lengthS
          rw [if_neg]
          intro h
          have := List.all_eq_true.1 h q (by simp; omega)
          rw [HD.out] at this; simp at this
        go_wp2_with fail
        go_region_held3 (fun w' => w'.cell? ⟨w.heap.size, 7, none⟩ = some (.slice (some ⟨fg, 0, none⟩) n cf) ∧ w'.cell? ⟨gi, q, none⟩ = some (.int .i64 xn) ∧ w'.cell? ⟨gi, q + 1, none⟩ = some (.int .i64 yn) ∧ w'.cell? ⟨fg, xn, none⟩ = some (.slice (some ⟨fgi, 0, none⟩) n fci) ∧ w'.cell? ⟨fgi, yn, none⟩ = some (.int .i64 (-1))) (go_keep) (fail)
        go_wp2
        go_ret
        exact ⟨ret_int HF.out.symm, by first | exact HBW.out.trans (HB.out.mono HBW.out.size) | exact HBW.out.trans (HB.out.drew.mono HBW.out.size)⟩
      · have e1 : (d == (-1 : Int)) = false := by simpa using hno
        have HR : Hid (T + d = rtTo D l (q + 1)) := by show _ = _; rw [rtTo_succ, ← HQ.out, HD.out]
        go_wp2_with fail
        go_region_held3 (fun w' => w'.cell? ⟨w.heap.size, 7, none⟩ = some (.slice (some ⟨fg, 0, none⟩) n cf) ∧ w'.cell? ⟨gi, q, none⟩ = some (.int .i64 xn) ∧ w'.cell? ⟨gi, q + 1, none⟩ = some (.int .i64 yn) ∧ w'.cell? ⟨fg, xn, none⟩ = some (.slice (some ⟨fgi, 0, none⟩) n fci) ∧ w'.cell? ⟨fgi, yn, none⟩ = some (.int .i64 d)) (go_keep) (fail)
        go_wp2
        go_roundw
        case rel => exact ⟨q + 1, T + d, by omega, by go_num, rfl, by omega, HR, fun j hj => (by
          by_cases h : j = q
          · subst h; rw [HD.out]; exact hno
          · exact HOKQ.out j (by omega)), by first | exact HB.out | exact HB.out.drew⟩
        case measure => simp [intOf]; omega
    · have HF : Hid (lengthS D l = T) := by
        show _ = _
        have hw : wayOk D l = true := List.all_eq_true.2 fun k hk => by
          have : k < l.length - 1 := by simpa using hk
          simpa using HOKQ.out k (by omega)
        unfold lengthS
        rw [if_pos hw, show l.length - 1 = q by omega, HQ.out]
      go_wp2
      go_ret
      exact ⟨ret_int HF.out.symm, by first | exact HBW.out.trans (HB.out.mono HBW.out.size) | exact HBW.out.trans (HB.out.drew.mono HBW.out.size)⟩
end Go.Proofs.YtebinaopncclgabGreatDoor
