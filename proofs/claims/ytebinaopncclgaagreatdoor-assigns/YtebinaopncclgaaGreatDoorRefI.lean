/- Walks of the document's answer: the whole text. -/
import Derived.Test.YtebinaopncclgaaGreatDoorRefH
namespace Go.Proofs.YtebinaopncclgaaGreatDoor
open Go.RowKit Go.IntWalk

set_option maxRecDepth 100000 in
set_option maxHeartbeats 1000000 in
theorem rparse_long (s : ByteArray) (w : World) (hlong : 2000 < s.size) (hs : s.size ≤ maxLen) : Calls Tryz.prog 22 #[.string s] w (Parsed w (parseS s.data.toList)) := by
  unfold maxLen at hs
  have hx : parseS s.data.toList = (Rd0, 0, 1) := by unfold parseS; rw [if_pos (by simpa using hlong)]
  have HX := hide hx
  clear hx
  go_enter Tryz.func22, Tryz.ntmps22
  go_wp2
  refine bodyPost_ret (v := .tuple #[.agg zero7, .int .i64 0, .int .i64 1]) (by simp [results, Tryz.results22, go_sem, zero7]) rfl ?_
  exact parsed_none HX.out (below2 _ _ _)

def seven7 (r : Rd) (vs vr : Value) : Array Value := #[.int .i64 r.vans, .int .i64 r.load, .int .i64 r.close, .int .i64 r.nodes, .int .i64 r.home, vs, vr]
structure RfIs (w wr : World) (r : Rd) (vs vr : Value) : Prop where
  z : wr.heap[w.heap.size]? = some (.cells zero7 36 (0, 0))
  x : wr.heap[w.heap.size + 1]? = some (.cells (seven7 r vs vr) 36 (0, 0))
  s : wr.ownsRow w.heap.size 50 5 vs r.stops.length (ints r.stops.flatten)
  r : wr.ownsRow w.heap.size 52 3 vr r.roads.length (ints r.roads.flatten)
  b : Below w.heap.size w wr
theorem RfIs.below {w wr w2 : World} {r : Rd} {vs vr : Value} (h : RfIs w wr r vs vr) (hb : Below wr.heap.size wr w2) : RfIs w w2 r vs vr :=
  ⟨by rw [hb.block _ (Array.getElem?_eq_some_iff.1 h.z).1]; exact h.z, by rw [hb.block _ (Array.getElem?_eq_some_iff.1 h.x).1]; exact h.x, own_below h.s hb, own_below h.r hb, h.b.trans (hb.mono h.b.size)⟩
def put7 (w : World) (b : Nat) (u0 u1 u2 u3 u4 u5 u6 : Value) : World := ((((((w.setCell ⟨b, 0, none⟩ u0).setCell ⟨b, 1, none⟩ u1).setCell ⟨b, 2, none⟩ u2).setCell ⟨b, 3, none⟩ u3).setCell ⟨b, 4, none⟩ u4).setCell ⟨b, 5, none⟩ u5).setCell ⟨b, 6, none⟩ u6
theorem put7_same {w : World} {b : Nat} {x0 x1 x2 x3 x4 x5 x6 : Value} {t : TypeId} (h : w.heap[b]? = some (.cells #[x0, x1, x2, x3, x4, x5, x6] t (0, 0))) (u0 u1 u2 u3 u4 u5 u6 : Value) :
    (put7 w b u0 u1 u2 u3 u4 u5 u6).heap[b]? = some (.cells #[u0, u1, u2, u3, u4, u5, u6] t (0, 0)) := by
  have k1 := heap_setCell_same w b 0 _ _ u0 h
  have k2 := heap_setCell_same _ b 1 _ _ u1 k1
  have k3 := heap_setCell_same _ b 2 _ _ u2 k2
  have k4 := heap_setCell_same _ b 3 _ _ u3 k3
  have k5 := heap_setCell_same _ b 4 _ _ u4 k4
  have k6 := heap_setCell_same _ b 5 _ _ u5 k5
  have k7 := heap_setCell_same _ b 6 _ _ u6 k6
  show (((((((w.setCell ⟨b, 0, none⟩ u0).setCell ⟨b, 1, none⟩ u1).setCell ⟨b, 2, none⟩ u2).setCell ⟨b, 3, none⟩ u3).setCell ⟨b, 4, none⟩ u4).setCell ⟨b, 5, none⟩ u5).setCell ⟨b, 6, none⟩ u6).heap[b]? = _
  rw [k7]; simp
theorem put7_other {w : World} {b k : Nat} (h : k ≠ b) (u0 u1 u2 u3 u4 u5 u6 : Value) : (put7 w b u0 u1 u2 u3 u4 u5 u6).heap[k]? = w.heap[k]? := by
  unfold put7
  rw [Below.heap_setCell _ _ _ _ h, Below.heap_setCell _ _ _ _ h, Below.heap_setCell _ _ _ _ h, Below.heap_setCell _ _ _ _ h, Below.heap_setCell _ _ _ _ h, Below.heap_setCell _ _ _ _ h, Below.heap_setCell _ _ _ _ h]
/- a line more is taken in -/
theorem rf_next {w wr w2 w3 : World} {r : Rd} {vs vr : Value} {x y : Rd} {vs' vr' : Value} {B n : Nat} {v : Value} {xs : List Value} (h : RfIs w wr r vs vr) (h2 : Below wr.heap.size wr w2) (hb : Below w.heap.size w2 w3) (hk : Keep tkT w2 w3) (hi : inst x vs' vr' = inst y vs' vr')
    (hs : w3.ownsRow w.heap.size 50 5 vs' y.stops.length (ints y.stops.flatten)) (hr : w3.ownsRow w.heap.size 52 3 vr' y.roads.length (ints y.roads.flatten)) (hv : wr.ownsRow B 9 1 v n xs) :
    RfIs w (put7 w3 (w.heap.size + 1) (.int .i64 x.vans) (.int .i64 x.load) (.int .i64 x.close) (.int .i64 x.nodes) (.int .i64 x.home) vs' vr') y vs' vr' ∧ (put7 w3 (w.heap.size + 1) (.int .i64 x.vans) (.int .i64 x.load) (.int .i64 x.close) (.int .i64 x.nodes) (.int .i64 x.home) vs' vr').ownsRow B 9 1 v n xs := by
  have hx3 := hk _ _ _ _ (h.below h2).x (by decide)
  have hz3 := hk _ _ _ _ (h.below h2).z (by decide)
  refine ⟨⟨?_, ?_, own_put7 hx3 hs (by decide), own_put7 hx3 hr (by decide), ((h.below h2).b.trans hb).trans (below_put7 _ _ _ (by omega) _ _ _ _ _ _ _)⟩, own_put7 hx3 (own_keep (own_below hv h2) hk (by decide)) (by decide)⟩
  · rw [put7_other (by omega)]; exact hz3
  · have e : seven7 x vs' vr' = seven7 y vs' vr' := by unfold inst at hi; unfold seven7; injection hi
    rw [← e]; exact put7_same hx3 _ _ _ _ _ _ _

theorem head_of {r : Rd} {f : List UInt8} {fs : List (List UInt8)} {l : List UInt8} (hl : flds l = f :: fs) (h : formedS f fs (!r.head) = true) (he : (rdLine r l).2 = 0) : (rdLine r l).1.head = true := by
  rw [is_formed hl h] at he ⊢
  obtain ⟨h1, h2, h3⟩ := formed_yes h
  rcases need_letters h1 with ⟨rfl, hn⟩ | ⟨rfl, hn⟩ | ⟨rfl, hn⟩
  · obtain ⟨a, b, c, d, e, hv⟩ := vals5 hn
    rw [hv] at he ⊢
    have hh : r.head = false := by simpa using h2
    show (rdDepot r a b c d e).1.head = true
    have he' : (rdDepot r a b c d e).2 = 0 := he
    unfold rdDepot at he' ⊢
    rw [if_neg (by simp [hh])] at he' ⊢
    split at he'
    · rename_i ho; rw [if_pos ho]
    · cases he'
  · obtain ⟨a, b, c, d, e, hv⟩ := vals5 hn
    rw [hv] at he ⊢
    have hh : r.head = true := by simpa using h2
    show (rdStop r a b c d e).1.head = true
    unfold rdStop
    split
    · exact hh
    · split
      · exact hh
      · split <;> exact hh
  · obtain ⟨a, b, c, hv⟩ := vals3 hn
    rw [hv] at he ⊢
    have hh : r.head = true := by simpa using h2
    show (rdRoad r a b c).1.head = true
    unfold rdRoad
    split
    · exact hh
    · split
      · exact hh
      · split <;> exact hh

set_option maxRecDepth 100000 in
set_option maxHeartbeats 1000000 in
theorem rparse_any (s : ByteArray) (w : World) (hsm : s.size ≤ maxLen) : Calls Tryz.prog 22 #[.string s] w (Parsed w (parseS s.data.toList)) := by
  by_cases hlong : 2000 < s.size
  · exact rparse_long s w hlong hsm
  · have hs : s.size ≤ 2000 := by omega
    have HLL : Hid (s.data.toList.length ≤ 2000) := by show _ ≤ _; simpa using hs
    obtain ⟨ls, hls⟩ : ∃ ls, ls = splitB 10 s.data.toList := ⟨_, rfl⟩
    have hlen := splitB_len 10 s.data.toList
    have hcnt := splitB_count 10 s.data.toList
    rw [← hls] at hlen hcnt
    have hn : ls.length ≤ 2001 := by have := HLL.out; omega
    have hn1 : 1 ≤ ls.length := by rw [hls]; unfold splitB; simp
    have HL := hide hlen
    have HLS := hide hls
    clear hlen hcnt hsm
    have hcon := rsplit_any 10 s ((w.alloc (.cells zero7 36)).alloc (.cells zero7 36)) (by omega)
    rw [← hls] at hcon
    have HC := hide hcon
    clear hcon hls hlong
    go_enter Tryz.func22, Tryz.ntmps22
    go_wp2_with fail
    refine HC.out.mono ?_
    rintro e1 w1 ⟨v, rfl, hown, hbel⟩
    obtain ⟨g, cap, cur, rfl, _, hg, hcap⟩ := own_shape hown (by omega)
    have hgl : g < w1.heap.size := (Array.getElem?_eq_some_iff.1 hg).1
    have hI : RfIs w w1 Rd0 (.slice none 0 0) (.slice none 0 0) := by
      refine ⟨?_, ?_, World.ownsRow_nil _ _ _ _, World.ownsRow_nil _ _ _ _, (below2 w _ _).trans (hbel.mono (by simp; omega))⟩
      · rw [hbel.block _ (by simp; omega), Below.heap_alloc _ _ _ (by simp)]; exact heap_alloc_new w _
      · rw [hbel.block _ (by simp)]; exact new_second _ _ _
    have HI := hide hI
    have HO := hide hown
    clear hI hown hbel hg HC
    go_wp2_with fail
    go_loopw [7, 8] (fun fi i wr => ∃ (k : Nat) (r : Rd) (vs vr : Value), k ≤ ls.length ∧ i = .int .i64 k ∧ fi = .bool (!r.head) ∧ Hid (rdGo Rd0 0 ls = rdGo r k (ls.drop k)) ∧ Hid (RdGood r) ∧ Hid (RfIs w wr r vs vr) ∧ Hid (wr.ownsRow (w.heap.size + 1 + 1) 9 1 (.slice (some ⟨g, 0, none⟩) ls.length cap) ls.length (strs ls))) (fun _ i _ => ls.length - (intOf i).toNat)
    case atStart => exact ⟨0, Rd0, _, _, Nat.zero_le _, rfl, rfl, rfl, good0, HI, by have h := HO.out; simp only [World.size_alloc] at h; exact h⟩
    case round =>
      clear HI HO
      obtain ⟨k, r, vs, vr, hk, rfl, rfl, HG, HF, HI, HO⟩ := hrel
      by_cases hlt : k < ls.length
      · have hcell : wr.cell? ⟨g, k, none⟩ = some (.string ⟨(ls[k]).toArray⟩) := by
          rw [HO.out.cellAt k (by omega)]; simp [strs, hlt]
        obtain ⟨l, hl⟩ : ∃ l, l = ls[k] := ⟨_, rfl⟩
        rw [← hl] at hcell
        have HLk := hide hl
        have hll : l.length ≤ 2000 := by have h1 := HL.out l (by rw [hl]; exact List.getElem_mem _); have h2 := HLL.out; omega
        clear hl
        have hcon := words_any ⟨l.toArray⟩ wr (by show l.toArray.size ≤ _; simp; omega)
        have HC : Hid (Calls Tryz.prog 61 #[.string ⟨l.toArray⟩] wr fun e w' => ∃ v, e = .returned v ∧ w'.ownsRow wr.heap.size 9 1 v (flds l).length (strs (flds l)) ∧ Below wr.heap.size wr w') := by
          show Calls _ _ _ _ _; simpa using hcon
        have HFC : Hid ((flds l).length ≤ l.length) := flds_count l
        have HFL : Hid (∀ f ∈ flds l, f.length ≤ l.length) := flds_len_le l
        clear hcon
        go_wp2_with fail
        refine HC.out.mono ?_
        rintro e2 w2 ⟨vw, rfl, hown2, hb2⟩
        obtain ⟨ws, hws⟩ : ∃ ws, ws = flds l := ⟨_, rfl⟩
        rw [← hws] at hown2 HFC HFL
        have HWS := hide hws
        have HO2 := hide hown2
        have HB2 := hide hb2
        have hwl : ws.length ≤ 2000 := by have := HFC.out; omega
        clear hws hown2 hb2 HC
        cases ws with
        | nil =>
          obtain ⟨avw, cvw, rfl, _, _⟩ := own_val HO2.out
          have HN : Hid (rdLine r l = (r, 0)) := by show _ = _; unfold rdLine; rw [← HWS.out]
          have HG' : Hid (rdGo Rd0 0 ls = rdGo r (k + 1) (ls.drop (k + 1))) := by
            show _ = _; rw [HG.out, rdGo_step hlt (by rw [← HLk.out, HN.out]), ← HLk.out, HN.out]
          have HI2 : Hid (RfIs w w2 r vs vr) := HI.out.below HB2.out
          have HO' : Hid (w2.ownsRow (w.heap.size + 1 + 1) 9 1 (.slice (some ⟨g, 0, none⟩) ls.length cap) ls.length (strs ls)) := own_below HO.out HB2.out
          clear HO HI hcell HO2 HB2
          go_wp2
          go_roundw
          case rel => exact ⟨k + 1, r, vs, vr, by omega, by go_num, rfl, HG', HF, HI2, HO'⟩
          case measure => simp [intOf]; omega
        | cons f fs =>
          obtain ⟨gw, capw, curw, rfl, _, hgw, _⟩ := own_shape HO2.out (by simp)
          have hw2 : Words w2 gw f fs := by
            refine ⟨(Array.getElem?_eq_some_iff.1 hgw).1, ?_, fun i hi => ?_⟩
            · rw [HO2.out.cellAt 0 (by simp)]; rfl
            · rw [HO2.out.cellAt (i + 1) (by simp; omega)]; simp [strs, hi]
          have HW2 := hide hw2
          have HFO : Hid (Calls Tryz.prog 62 #[.slice (some ⟨gw, 0, none⟩) (f :: fs).length capw, .bool (!r.head)] w2 fun e w' => e = .returned (.bool (formedS f fs (!r.head))) ∧ w' = w2) :=
            formed_walk gw capw (f :: fs).length f fs (!r.head) w2 rfl (by simp at hwl; omega) (fun x hx => by have := HFL.out x (by simp [hx]); omega) hw2.head hw2.rest
          have HI2 : Hid (RfIs w w2 r vs vr) := HI.out.below HB2.out
          clear hw2 hgw
          go_wp2_with fail
          refine HFO.out.mono ?_
          rintro e3 w3 ⟨rfl, rfl⟩
          cases hfo : formedS f fs (!r.head)
          · have HX : Hid (parseS s.data.toList = (Rd0, k + 1, 2)) := by
              have he := not_formed (l := l) HWS.out.symm hfo
              refine parse_fault HLL.out ?_ (by decide)
              rw [← HLS.out, HG.out, rdGo_stop hlt (by rw [← HLk.out, he]; decide), ← HLk.out, he]
            obtain ⟨b0, b1, b2, b3, b4, b5, b6, hfz⟩ := box7 HI2.out.z
            clear HO HI hcell
            go_wp2
            refine bodyPost_ret (v := .tuple #[.agg zero7, .int .i64 ((k + 1 : Nat) : Int), .int .i64 2]) (by simp [results, Tryz.results22, go_sem, zero7, b0, b1, b2, b3, b4, b5, b6]) rfl ?_
            exact parsed_none HX.out (HI2.out.b.trans (below_put7 _ _ _ (Nat.le_refl _) _ _ _ _ _ _ _))
          · obtain ⟨y0, y1, y2, y3, y4, y5, y6, yf⟩ := seven HI2.out.x
            have HLV : Hid (rdLine r l = rdVals r f (fs.map numV)) := is_formed HWS.out.symm hfo
            have hcon := taken_any gw capw (f :: fs).length w.heap.size r vs vr f fs w3 rfl HW2.out hfo HI2.out.b.size HF.out HI2.out.s HI2.out.r
            rw [← HLV.out] at hcon
            have HC : Hid (Calls Tryz.prog 63 #[.agg #[.int .i64 r.vans, .int .i64 r.load, .int .i64 r.close, .int .i64 r.nodes, .int .i64 r.home, vs, vr], .slice (some ⟨gw, 0, none⟩) (fs.length + 1) capw] w3 (TkGood w3 w.heap.size (rdLine r l))) := hcon
            have HF' : Hid (RdGood (rdLine r l).1) := by show RdGood _; rw [HLV.out]; exact rdVals_good HF.out _ _
            clear hcon HLV hcell
            obtain ⟨_, _, hvs, _, _⟩ := own_val HI2.out.s
            obtain ⟨_, _, hvr, _, _⟩ := own_val HI2.out.r
            subst hvs hvr
            go_wp2_with fail
            refine HC.out.mono ?_
            rintro e4 w4 ⟨x, vs', vr', rfl, ⟨n5, a5, c5, n6, a6, c6, rfl, rfl⟩, hb4, hk4, hok4⟩
            have hz4 := hk4 _ _ _ _ HI2.out.z (by decide)
            have hx4 := hk4 _ _ _ _ HI2.out.x (by decide)
            have hbx : w.heap.size + 1 < w4.heap.size := (Array.getElem?_eq_some_iff.1 hx4).1
            have HB4 := hide hb4
            have HK4 := hide hk4
            have HOK4 := hide hok4
            clear hb4 hk4 hok4 HC HFO HO2 HW2 y0 y1 y2 y3 y4 y5 y6 yf
            unfold inst
            by_cases he : (rdLine r l).2 = 0
            · obtain ⟨hi1, hs1, hr1⟩ := HOK4.out he
              obtain ⟨hn1', hn2'⟩ := rf_next HI.out HB2.out HB4.out HK4.out hi1 hs1 hr1 HO.out
              have HN1 := hide hn1'
              have HN2 := hide hn2'
              have HG' : Hid (rdGo Rd0 0 ls = rdGo (rdLine r l).1 (k + 1) (ls.drop (k + 1))) := by
                show _ = _; rw [HG.out, HLk.out]; exact rdGo_step hlt (by rw [← HLk.out]; exact he)
              have hhd : (rdLine r l).1.head = true := head_of HWS.out.symm hfo he
              obtain ⟨q0, q1, q2, q3, q4, q5, q6, qf⟩ := seven hx4
              rw [he]
              clear hi1 hs1 hr1 hn1' hn2' hz4 hx4 HOK4 HB4 HK4 HI HI2 HB2 HO
              go_wp2_with fail
              go_roundw
              case rel =>
                have hfi : Value.bool false = .bool (!(rdLine r l).1.head) := by rw [hhd]; rfl
                refine ⟨k + 1, (rdLine r l).1, .slice a5 n5 c5, .slice a6 n6 c6, by omega, by go_num, hfi, HG', HF', ?_, ?_⟩
                · exact HN1.out.below (below1 _ _)
                · exact own_below HN2.out (below1 _ _)
              case measure => simp [intOf]; omega
            · have HX : Hid (parseS s.data.toList = (Rd0, k + 1, (rdLine r l).2)) := by
                refine parse_fault HLL.out ?_ he
                rw [← HLS.out, HG.out, HLk.out]; exact rdGo_stop hlt (by rw [← HLk.out]; exact he)
              have hne : ((rdLine r l).2 != 0) = true := by simp [he]
              obtain ⟨b0, b1, b2, b3, b4, b5, b6, hfz⟩ := box7 hz4
              have HB5 : Hid (Below w.heap.size w w4) := HI2.out.b.trans HB4.out
              clear he hz4 hx4 HOK4 HB4 HK4 HI HI2 HB2 HO HF' HF
              generalize (rdLine r l).2 = er at *
              have hb0 : w.heap.size < w4.heap.size := by omega
              go_wp2
              refine bodyPost_ret (v := .tuple #[.agg zero7, .int .i64 ((k + 1 : Nat) : Int), .int .i64 er]) (by simp [results, Tryz.results22, go_sem, zero7, b0, b1, b2, b3, b4, b5, b6, hb0]) rfl ?_
              exact parsed_none HX.out ((HB5.out.trans (below_put7 _ _ _ (Nat.le_refl _) _ _ _ _ _ _ _)).trans ((below1 _ _).mono (by have := HB5.out.size; have := (below_put7 w.heap.size w.heap.size w4 (Nat.le_refl _) (.int .i64 0) (.int .i64 0) (.int .i64 0) (.int .i64 0) (.int .i64 0) (.slice none 0 0) (.slice none 0 0)).size; omega)))
      · have hke : k = ls.length := by omega
        subst hke
        have HG' : Hid (rdGo Rd0 0 (splitB 10 s.data.toList) = (r, 0, 0)) := by
          show _ = _; rw [← HLS.out, HG.out]; exact rdGo_end (Nat.le_refl _)
        obtain ⟨b0, b1, b2, b3, b4, b5, b6, hfz⟩ := box7 HI.out.z
        obtain ⟨c0, c1, c2, c3, c4, c5, c6, hfr⟩ := seven HI.out.x
        have hrl : w.heap.size + 1 < wr.heap.size := (Array.getElem?_eq_some_iff.1 HI.out.x).1
        cases hh : r.head
        · have HX : Hid (parseS s.data.toList = (Rd0, ls.length, 2)) := by show _ = _; rw [parse_none HLL.out HG'.out hh, HLS.out]
          clear c0 c1 c2 c3 c4 c5 c6 hfr
          go_wp2
          refine bodyPost_ret (v := .tuple #[.agg zero7, .int .i64 ls.length, .int .i64 2]) (by simp [results, Tryz.results22, go_sem, zero7, b0, b1, b2, b3, b4, b5, b6]) rfl ?_
          exact parsed_none HX.out (HI.out.b.trans (below_put7 _ _ _ (Nat.le_refl _) _ _ _ _ _ _ _))
        · have HX : Hid (parseS s.data.toList = (r, 0, 0)) := parse_ok HLL.out HG'.out hh
          obtain ⟨aos, caps, hvs, _, _⟩ := own_val HI.out.s
          obtain ⟨aor, capr, hvr, _, _⟩ := own_val HI.out.r
          subst hvs hvr
          go_wp2
          rw [HX.out]
          refine bodyPost_ret (v := .tuple #[inst r (.slice aos r.stops.length caps) (.slice aor r.roads.length capr), .int .i64 0, .int .i64 0]) (by simp [results, Tryz.results22, go_sem, inst, b0, b1, b2, b3, b4, b5, b6]) rfl ?_
          exact ⟨_, _, rfl, own_put7 HI.out.z HI.out.s (by decide), own_put7 HI.out.z HI.out.r (by decide), HI.out.b.trans (below_put7 _ _ _ (Nat.le_refl _) _ _ _ _ _ _ _)⟩
end Go.Proofs.YtebinaopncclgaaGreatDoor
