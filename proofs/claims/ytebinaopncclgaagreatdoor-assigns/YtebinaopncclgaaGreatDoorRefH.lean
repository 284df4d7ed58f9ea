/- Walks of the document's answer: the whole text. -/
import Derived.Test.YtebinaopncclgaaGreatDoorRefF
namespace Go.Proofs.YtebinaopncclgaaGreatDoor
open Go.RowKit Go.IntWalk

set_option maxRecDepth 100000 in
set_option maxHeartbeats 1000000 in
theorem taken_R_many (g cap B : Nat) (r : Rd) (vs vr : Value) (fs : List (List UInt8)) (a b c : Int) (w : World) (hw : Words w g [82] fs) (hv : fs.map numV = [a, b, c]) (hok : fs.all numOk = true) (hB : B ≤ w.heap.size)
    (hs : w.ownsRow B 50 5 vs r.stops.length (ints r.stops.flatten)) (hr : w.ownsRow B 52 3 vr r.roads.length (ints r.roads.flatten)) (hl : r.roads.length = 40) :
    Calls Tryz.prog 63 #[inst r vs vr, .slice (some ⟨g, 0, none⟩) 4 cap] w (TkLeft w B (tkRoad r a b c)) := by
  have hx : tkRoad r a b c = (r, 3) := by unfold tkRoad; rw [if_pos hl]
  have hl5 : fs.length = 3 := by have := congrArg List.length hv; simpa using this
  have hcon := fun W (hW : Below w.heap.size w W) => values_walk g cap 4 fs W (by omega) (by omega) hok (hw.below hW).lt (hw.below hW).rest
  have HV := hid hcon
  have HWD := hid hw
  have HS := hid hs
  have HR := hid hr
  have HX := hid hx
  obtain ⟨avs, cvs, hvs, _, _⟩ := own_val hs
  obtain ⟨avr, cvr, hvr, _, _⟩ := own_val hr
  subst hvs hvr
  clear hcon hw hv hok hs hr hx
  unfold inst
  go_enter Tryz.func63, Tryz.ntmps63
  go_wp2_with fail
  refine (HV.out _ (below2 w _ _)).mono ?_
  rintro e1 w1 ⟨v, rfl, _, hb1⟩
  have HT := hid (tk_at (r := r) rfl HWD.out hb1)
  obtain ⟨y0, y1, y2, y3, y4, y5, y6, qf⟩ := seven HT.out.x
  obtain ⟨p0, p1, p2, p3, p4, p5, p6, pf⟩ := box7 HT.out.z
  have hg0 := HT.out.f
  have hzl : w.heap.size + 1 < w1.heap.size := (Array.getElem?_eq_some_iff.1 HT.out.z).1
  have hgw := HT.out.g
  have hgl : g < w1.heap.size := by omega
  have HB : Hid (Below w.heap.size w w1) := HT.out.b
  have hn7 : ((r.roads.length : Int) == 40) = true := by simp [hl]
  have HL := hid hl
  clear hb1 HV HWD HT hl5 hl
  go_wp2_with fail
  all_goals
    first
      | (exfalso; simp_all; done)
      | (refine bodyPost_ret (v := .tuple #[.agg #[.int .i64 r.vans, .int .i64 r.load, .int .i64 r.close, .int .i64 r.nodes, .int .i64 r.home, .slice avs r.stops.length cvs, .slice avr r.roads.length cvr], .int .i64 3]) (by simp [results, Tryz.results63, go_sem, p0, p1, p2, p3, p4, p5, p6]; try (have := HL.out; omega)) rfl ?_
         exact tk_same HX.out hB HS.out HR.out (HB.out.trans (below_put7 _ _ _ (by omega) _ _ _ _ _ _ _)))

theorem tk_done_r {w w3 : World} {B n5 c5 : Nat} {r : Rd} {a b c ec : Int} {x : Rd × Int} {ok : Bool} {g5 : Nat} {vs : Value} {u0 u1 u2 u3 u4 u5 u6 : Value} (hx : x = ({ r with roads := r.roads ++ [[a, b, c]] }, if roadOk a b c r.nodes = true then 0 else 4)) (hok : roadOk a b c r.nodes = ok)
    (hz : w3.heap[w.heap.size + 1]? = some (.cells zero7 36 (0, 0))) (hb : Below B w w3) (hk : Keep tkT w w3) (ho : w3.ownsRow B 52 3 (.slice (some ⟨g5, 0, none⟩) n5 c5) n5 (ints r.roads.flatten ++ [.int .i64 a, .int .i64 b, .int .i64 c])) (hr : w3.ownsRow B 50 5 vs r.stops.length (ints r.stops.flatten)) (hB : B ≤ w.heap.size)
    (hn : n5 = r.roads.length + 1 := by rfl) (hec : ec = if ok = true then 0 else 4 := by rfl) :
    TkLeft w B x (.returned (.tuple #[.agg #[.int .i64 r.vans, .int .i64 r.load, .int .i64 r.close, .int .i64 r.nodes, .int .i64 r.home, vs, .slice (some ⟨g5, 0, none⟩) n5 c5], .int .i64 ec])) (((((((w3.setCell ⟨w.heap.size + 1, 0, none⟩ u0).setCell ⟨w.heap.size + 1, 1, none⟩ u1).setCell ⟨w.heap.size + 1, 2, none⟩ u2).setCell ⟨w.heap.size + 1, 3, none⟩ u3).setCell ⟨w.heap.size + 1, 4, none⟩ u4).setCell ⟨w.heap.size + 1, 5, none⟩ u5).setCell ⟨w.heap.size + 1, 6, none⟩ u6) := by
  subst hx hn hec
  obtain ⟨h1, h2⟩ := tk_put7 hb hk hB u0 u1 u2 u3 u4 u5 u6
  refine ⟨_, _, by rw [hok]; rfl, own_put7 hz hr (by decide), ?_, h1, h2⟩
  have := own_put7 (u0 := u0) (u1 := u1) (u2 := u2) (u3 := u3) (u4 := u4) (u5 := u5) (u6 := u6) hz ho (by decide)
  show World.ownsRow _ _ _ _ _ (r.roads ++ [[a, b, c]]).length (ints (r.roads ++ [[a, b, c]]).flatten)
  rw [List.length_append, List.flatten_append, ints_append]; simpa [ints] using this

set_option maxRecDepth 100000 in
set_option maxHeartbeats 1000000 in
theorem taken_R_in (g cap B : Nat) (r : Rd) (vs vr : Value) (fs : List (List UInt8)) (a b c : Int) (w : World) (hw : Words w g [82] fs) (hv : fs.map numV = [a, b, c]) (hok : fs.all numOk = true) (hB : B ≤ w.heap.size) (hnod : 0 ≤ r.nodes ∧ r.nodes ≤ 99999)
    (hs : w.ownsRow B 50 5 vs r.stops.length (ints r.stops.flatten)) (hr : w.ownsRow B 52 3 vr r.roads.length (ints r.roads.flatten)) (hl : r.roads.length < 40) :
    Calls Tryz.prog 63 #[inst r vs vr, .slice (some ⟨g, 0, none⟩) 4 cap] w (TkLeft w B (tkRoad r a b c)) := by
  have hx : tkRoad r a b c = ({ r with roads := r.roads ++ [[a, b, c]] }, if roadOk a b c r.nodes = true then 0 else 4) := by unfold tkRoad; rw [if_neg (by omega)]
  obtain ⟨i0, hi, hz0, hz1, hz2⟩ := info_parts Tryz.infoRoad
  have hl5 : fs.length = 3 := by have := congrArg List.length hv; simpa using this
  have hcon := fun W (hW : Below w.heap.size w W) => values_walk g cap 4 fs W (by omega) (by omega) hok (hw.below hW).lt (hw.below hW).rest
  rw [hv] at hcon
  have HV := hid hcon
  have HWD := hid hw
  have HS := hid hs
  have HR := hid hr
  have HX := hid hx
  obtain ⟨avs, cvs, hvs, _, _⟩ := own_val hs
  obtain ⟨avr, cvr, hvr, _, _⟩ := own_val hr
  subst hvs hvr
  clear hcon hw hv hok hs hr hx
  unfold inst
  go_enter Tryz.func63, Tryz.ntmps63
  go_wp2_with fail
  refine (HV.out _ (below2 w _ _)).mono ?_
  rintro e1 w1 ⟨v, rfl, hown, hb1⟩
  obtain ⟨gv, capv, cur, rfl, hgb, hgv, _⟩ := own_shape hown (by simp)
  have hgl : gv < w1.heap.size := (Array.getElem?_eq_some_iff.1 hgv).1
  have v0 : w1.cell? ⟨gv, 0, none⟩ = some (.int .i64 a) := by rw [hown.cellAt 0 (by simp)]; rfl
  have v1 : w1.cell? ⟨gv, 1, none⟩ = some (.int .i64 b) := by rw [hown.cellAt 1 (by simp)]; rfl
  have v2 : w1.cell? ⟨gv, 2, none⟩ = some (.int .i64 c) := by rw [hown.cellAt 2 (by simp)]; rfl
  have HT := hid (tk_at (r := r) rfl HWD.out hb1)
  obtain ⟨y0, y1, y2, y3, y4, y5, y6, qf⟩ := seven HT.out.x
  have hg0 := HT.out.f
  have hzl : w.heap.size + 1 < w1.heap.size := (Array.getElem?_eq_some_iff.1 HT.out.z).1
  have hgw := HT.out.g
  have hgl0 : g < w1.heap.size := by omega
  have hbx : w.heap.size < w1.heap.size := by omega
  have HS1 : Hid (w1.ownsRow B 52 3 (.slice avr r.roads.length cvr) r.roads.length (ints r.roads.flatten)) := own_below HR.out HT.out.b
  have hn7 : ((r.roads.length : Int) == 40) = false := by simp; omega
  clear hb1 HV HWD hown hgv hgb y0 y1 y2 y4 y5
  go_wp2_with fail
  go_region
  go_wp2_with (at_builtin; refine wpList_append_own _ rfl _ _ 34 rfl B 52 i0 (.agg #[.int .i64 0, .int .i64 0, .int .i64 0]) 3 24 Tryz.underlying34 hi hz0 hz1 hz2 rfl (by decide) _ _ _ rfl ((HS1.out.alloc _).alloc _) ⟨w1.heap.size + 1, 0, none⟩ 1 1 [.int .i64 a, .int .i64 b, .int .i64 c] rfl rfl ?c1 ?c2 ?c3 ?c4 ?c5 ?_)
  case c1 => exact news_b (w := w1.alloc _) rfl rfl (by simp)
  case c2 => exact ints3 _ _ _
  case c3 => unfold maxLen; omega
  case c4 => omega
  case c5 => simp; omega
  intro v' w2 hown' hgrow _
  have HO := hid hown'
  obtain ⟨g5, cap5, cur5, hv5, hg5, hg5', _⟩ := own_shape hown' (by omega)
  subst hv5
  obtain ⟨hx2, hzz2, hb2, hk2⟩ := tk_append HT.out ((below2 w1 _ _).drew) HS1.out (by decide) hB hgrow
  have hbox := grown_box hgrow HS1.out (heap_alloc2_first w1 (.cells #[.int .i64 a, .int .i64 b, .int .i64 c] 52) _)
  have HR2 : Hid (w2.ownsRow B 50 5 (.slice avs r.stops.length cvs) r.stops.length (ints r.stops.flatten)) :=
    (own_below (own_below HS.out HT.out.b) ((below2 w1 _ _).drew)).kept hgrow (own_ne (own_below HS.out HT.out.b) HS1.out (by decide))
  have HB2 := hid hb2
  have HK2 := hid hk2
  have HX2 := hid hx2
  have HZ2 := hid hzz2
  obtain ⟨x0, x1, x2, x3, x4, x5, x6, xf⟩ := seven hx2
  have s0 : w2.cell? ⟨w1.heap.size, 0, none⟩ = some (.int .i64 a) := by rw [cell_of_row _ _ _ _ _ _ hbox]; rfl
  have s1 : w2.cell? ⟨w1.heap.size, 1, none⟩ = some (.int .i64 b) := by rw [cell_of_row _ _ _ _ _ _ hbox]; rfl
  have s2 : w2.cell? ⟨w1.heap.size, 2, none⟩ = some (.int .i64 c) := by rw [cell_of_row _ _ _ _ _ _ hbox]; rfl
  have hl2 : w1.heap.size < w2.heap.size := (Array.getElem?_eq_some_iff.1 hbox).1
  have hl3 : w.heap.size < w2.heap.size := by omega
  have hne : w1.heap.size ≠ w.heap.size := by omega
  clear hown' hgrow hx2 hzz2 hb2 hk2 hbox HS1 HS HR HT v0 v1 v2 y3 y6 qf hg0 hgw hgl0 hgl hn7 hg5 hg5' hi hz0 hz1 hz2 hl5
  go_wp2_with fail
  refine (roadFine_any a b c r.nodes _ (by omega)).mono ?_
  rintro e3 w3 ⟨rfl, hb3⟩
  have hw3 := tk_left HX2.out HZ2.out HB2.out HK2.out HO.out HR2.out (u := .slice (some ⟨g5, 0, none⟩) (r.roads.length + 1) cap5) (o := 6) (by decide) (by decide) (by omega) hB hb3
  obtain ⟨kx, kz, kb, kk, ko, kr⟩ := hw3
  have HKX := hid kx
  have HKZ := hid kz
  have HKB := hid kb
  have HKK := hid kk
  have HKO := hid ko
  have HKR := hid kr
  obtain ⟨q0, q1, q2, q3, q4, q5, q6, qf⟩ := seven (seven_at kx)
  obtain ⟨p0, p1, p2, p3, p4, p5, p6, pf⟩ := box7 kz
  have hzl2 : w.heap.size + 1 < w3.heap.size := (Array.getElem?_eq_some_iff.1 kz).1
  clear hb3 kx kz kb kk ko kr HX2 HZ2 HB2 HK2 HO HR2 x0 x1 x2 x3 x4 x5 x6 xf s0 s1 s2 hl2 hl3 hne hzl hbx hl qf
  cases hok2 : roadOk a b c r.nodes
  · go_wp2_with fail
    all_goals
      first
        | (exfalso; simp_all; done)
        | (refine bodyPost_ret (v := .tuple #[.agg #[.int .i64 r.vans, .int .i64 r.load, .int .i64 r.close, .int .i64 r.nodes, .int .i64 r.home, .slice avs r.stops.length cvs, .slice (some ⟨g5, 0, none⟩) (r.roads.length + 1) cap5], .int .i64 4]) (by simp [results, Tryz.results63, go_sem, p0, p1, p2, p3, p4, p5, p6]) rfl ?_
           exact tk_done_r HX.out hok2 HKZ.out HKB.out HKK.out HKO.out HKR.out hB)
  · go_wp2_with fail
    all_goals
      first
        | (exfalso; simp_all; done)
        | (refine bodyPost_ret (v := .tuple #[.agg #[.int .i64 r.vans, .int .i64 r.load, .int .i64 r.close, .int .i64 r.nodes, .int .i64 r.home, .slice avs r.stops.length cvs, .slice (some ⟨g5, 0, none⟩) (r.roads.length + 1) cap5], .int .i64 0]) (by simp [results, Tryz.results63, go_sem, p0, p1, p2, p3, p4, p5, p6]) rfl ?_
           exact tk_done_r HX.out hok2 HKZ.out HKB.out HKK.out HKO.out HKR.out hB)

end Go.Proofs.YtebinaopncclgaaGreatDoor
namespace Go.Proofs.YtebinaopncclgaaGreatDoor
open Go.RowKit Go.IntWalk

structure RdGood (r : Rd) : Prop where
  fine : RdFine r
  none : r.head = false → r = Rd0
  lo : 0 ≤ r.nodes
  hi : r.nodes ≤ 99999
theorem good0 : RdGood Rd0 := ⟨⟨by simp [Rd0], by simp [Rd0]⟩, fun _ => rfl, by simp [Rd0], by simp [Rd0]⟩
theorem headOk_nodes {a b c d e : Int} (h : headOk a b c d e = true) : 1 ≤ d ∧ d ≤ 12 := by
  unfold headOk at h; simp at h; omega
theorem rdVals_good {r : Rd} (h : RdGood r) (f : List UInt8) (vs : List Int) : RdGood (rdVals r f vs).1 := by
  refine ⟨rdVals_fine h.fine f vs, ?_, ?_, ?_⟩
  all_goals
    unfold rdVals
    split
    · split
      · unfold rdDepot
        split
        · first | exact h.none | exact h.lo | exact h.hi
        · split
          · rename_i hh; have := headOk_nodes hh; first | (intro h'; cases h'; done) | (show _ ≤ _; simp; omega)
          · first | exact h.none | exact h.lo | exact h.hi
      · first | exact h.none | exact h.lo | exact h.hi
    · split
      · split
        · unfold rdStop
          split
          · first | exact h.none | exact h.lo | exact h.hi
          · split
            · first | exact h.none | exact h.lo | exact h.hi
            · split
              · rename_i hh _ _; first | exact fun h' => absurd h' hh | exact h.lo | exact h.hi
              · first | exact h.none | exact h.lo | exact h.hi
        · first | exact h.none | exact h.lo | exact h.hi
      · split
        · split
          · unfold rdRoad
            split
            · first | exact h.none | exact h.lo | exact h.hi
            · split
              · first | exact h.none | exact h.lo | exact h.hi
              · split
                · rename_i hh _ _; first | exact fun h' => absurd h' hh | exact h.lo | exact h.hi
                · first | exact h.none | exact h.lo | exact h.hi
          · first | exact h.none | exact h.lo | exact h.hi
        · first | exact h.none | exact h.lo | exact h.hi

def TkGood (w : World) (B : Nat) (y : Rd × Int) (q : Ending) (w' : World) : Prop :=
  ∃ x vs' vr', q = .returned (.tuple #[inst x vs' vr', .int .i64 y.2]) ∧ (∃ n a c m b d, vs' = .slice a n c ∧ vr' = .slice b m d) ∧ Below B w w' ∧ Keep tkT w w' ∧ (y.2 = 0 → inst x vs' vr' = inst y.1 vs' vr' ∧ w'.ownsRow B 50 5 vs' y.1.stops.length (ints y.1.stops.flatten) ∧ w'.ownsRow B 52 3 vr' y.1.roads.length (ints y.1.roads.flatten))
theorem left_good {w w' : World} {B : Nat} {x y : Rd × Int} {q : Ending} (h : TkLeft w B x q w') (he : x.2 = y.2) (hx : y.2 = 0 → x.1 = y.1) : TkGood w B y q w' := by
  obtain ⟨vs, vr, rfl, h1, h2, h3, h4⟩ := h
  obtain ⟨_, _, e1, _, _⟩ := own_val h1
  obtain ⟨_, _, e2, _, _⟩ := own_val h2
  refine ⟨x.1, vs, vr, by rw [he], ⟨_, _, _, _, _, _, e1, e2⟩, h3, h4, fun hy => ?_⟩
  rw [← hx hy]; exact ⟨rfl, h1, h2⟩

theorem need_letters {f : List UInt8} {n : Nat} (h : n + 1 = needS f) : f = [68] ∧ n = 5 ∨ f = [83] ∧ n = 5 ∨ f = [82] ∧ n = 3 := by
  unfold needS at h
  split at h
  · rename_i hf; exact .inl ⟨hf, by omega⟩
  · split at h
    · rename_i hf; exact .inr (.inl ⟨hf, by omega⟩)
    · split at h
      · rename_i hf; exact .inr (.inr ⟨hf, by omega⟩)
      · omega
theorem formed_yes {f : List UInt8} {fs : List (List UInt8)} {b : Bool} (h : formedS f fs b = true) : fs.length + 1 = needS f ∧ b = (f == [68]) ∧ fs.all numOk = true := by
  unfold formedS at h
  simp only [Bool.and_eq_true, decide_eq_true_eq] at h
  exact ⟨h.1.1, by simpa using h.1.2, h.2⟩
theorem vals5 {fs : List (List UInt8)} (h : fs.length = 5) : ∃ a b c d e, fs.map numV = [a, b, c, d, e] := by
  match fs, h with
  | [x0, x1, x2, x3, x4], _ => exact ⟨_, _, _, _, _, rfl⟩
theorem vals3 {fs : List (List UInt8)} (h : fs.length = 3) : ∃ a b c, fs.map numV = [a, b, c] := by
  match fs, h with
  | [x0, x1, x2], _ => exact ⟨_, _, _, rfl⟩

theorem tkS_eq {r : Rd} {a b c d e : Int} (hh : r.head = true) (h7 : r.stops.length < 7) : (tkStop r a b c d e).2 = (rdStop r a b c d e).2 ∧ ((rdStop r a b c d e).2 = 0 → (tkStop r a b c d e).1 = (rdStop r a b c d e).1) := by
  have e1 : tkStop r a b c d e = ({ r with stops := r.stops ++ [[a, b, c, d, e]] }, if stopOk a b c d e r.nodes = true then 0 else 4) := if_neg (by omega)
  have e2 : rdStop r a b c d e = if stopOk a b c d e r.nodes = true then ({ r with stops := r.stops ++ [[a, b, c, d, e]] }, 0) else (r, 4) := by
    unfold rdStop; rw [if_neg (by simp [hh] : ¬ r.head = false), if_neg (by omega : ¬ 7 ≤ r.stops.length)]
  rw [e1, e2]
  cases stopOk a b c d e r.nodes <;> simp
theorem tkR_eq {r : Rd} {a b c : Int} (hh : r.head = true) (h7 : r.roads.length < 40) : (tkRoad r a b c).2 = (rdRoad r a b c).2 ∧ ((rdRoad r a b c).2 = 0 → (tkRoad r a b c).1 = (rdRoad r a b c).1) := by
  have e1 : tkRoad r a b c = ({ r with roads := r.roads ++ [[a, b, c]] }, if roadOk a b c r.nodes = true then 0 else 4) := if_neg (by omega)
  have e2 : rdRoad r a b c = if roadOk a b c r.nodes = true then ({ r with roads := r.roads ++ [[a, b, c]] }, 0) else (r, 4) := by
    unfold rdRoad; rw [if_neg (by simp [hh] : ¬ r.head = false), if_neg (by omega : ¬ 40 ≤ r.roads.length)]
  rw [e1, e2]
  cases roadOk a b c r.nodes <;> simp
theorem taken_any (g cap N B : Nat) (r : Rd) (vs vr : Value) (f : List UInt8) (fs : List (List UInt8)) (w : World) (hN : N = fs.length + 1) (hw : Words w g f fs) (hf : formedS f fs (!r.head) = true) (hB : B ≤ w.heap.size) (hg : RdGood r)
    (hs : w.ownsRow B 50 5 vs r.stops.length (ints r.stops.flatten)) (hr : w.ownsRow B 52 3 vr r.roads.length (ints r.roads.flatten)) :
    Calls Tryz.prog 63 #[inst r vs vr, .slice (some ⟨g, 0, none⟩) N cap] w (TkGood w B (rdVals r f (fs.map numV))) := by
  obtain ⟨h1, h2, h3⟩ := formed_yes hf
  rcases need_letters h1 with ⟨rfl, hl⟩ | ⟨rfl, hl⟩ | ⟨rfl, hl⟩
  · obtain ⟨a, b, c, d, e, hv⟩ := vals5 hl
    have hh : r.head = false := by simpa using h2
    have hr0 := hg.none hh
    obtain ⟨aq, cs, e1, _, _⟩ := own_val hs
    obtain ⟨ar, cr, e2, _, _⟩ := own_val hr
    obtain rfl : N = 6 := by omega
    refine (taken_D g cap r vs vr fs a b c d e w hw hv h3 _ _ _ _ _ _ e1 e2).mono ?_
    rintro q w' ⟨rfl, hb⟩
    have hy : rdVals r [68] (fs.map numV) = rdDepot r a b c d e := by rw [hv]; rfl
    rw [hy]
    cases hok : headOk a b c d e
    · have hz : rdDepot r a b c d e = (r, 4) := by unfold rdDepot; rw [if_neg (by simp [hh]), if_neg (by simp [hok])]
      rw [hz]
      exact ⟨{ r with vans := a, load := b, close := c, nodes := d, home := e }, vs, vr, rfl, ⟨_, _, _, _, _, _, e1, e2⟩, hb.mono hB, Keep.of_below hb, fun h => by cases h⟩
    · have hz : rdDepot r a b c d e = ({ vans := a, load := b, close := c, nodes := d, home := e, stops := [], roads := [], head := true }, 0) := by unfold rdDepot; rw [if_neg (by simp [hh]), if_pos hok]
      rw [hz]
      refine ⟨{ r with vans := a, load := b, close := c, nodes := d, home := e }, vs, vr, rfl, ⟨_, _, _, _, _, _, e1, e2⟩, hb.mono hB, Keep.of_below hb, fun _ => ⟨rfl, ?_, ?_⟩⟩
      · have := own_below hs hb; rw [hr0] at this; exact this
      · have := own_below hr hb; rw [hr0] at this; exact this
  · obtain ⟨a, b, c, d, e, hv⟩ := vals5 hl
    have hh : r.head = true := by simpa using h2
    obtain rfl : N = 6 := by omega
    have hy : rdVals r [83] (fs.map numV) = rdStop r a b c d e := by rw [hv]; rfl
    rw [hy]
    have hlen := hg.fine.1
    by_cases h7 : r.stops.length = 7
    · refine (taken_S_many g cap B r vs vr fs a b c d e w hw hv h3 hB hs hr h7).mono fun q w' h => left_good h ?_ ?_
      · unfold tkStop rdStop; rw [if_pos h7, if_neg (by simp [hh]), if_pos (by omega)]
      · unfold rdStop; rw [if_neg (by simp [hh]), if_pos (by omega)]; intro h'; cases h'
    · refine (taken_S_in g cap B r vs vr fs a b c d e w hw hv h3 hB ⟨hg.lo, hg.hi⟩ hs hr (by omega)).mono fun q w' h => left_good h ?_ ?_
      · exact (tkS_eq hh (by omega)).1
      · exact (tkS_eq hh (by omega)).2
  · obtain ⟨a, b, c, hv⟩ := vals3 hl
    have hh : r.head = true := by simpa using h2
    obtain rfl : N = 4 := by omega
    have hy : rdVals r [82] (fs.map numV) = rdRoad r a b c := by rw [hv]; rfl
    rw [hy]
    have hlen := hg.fine.2
    by_cases h7 : r.roads.length = 40
    · refine (taken_R_many g cap B r vs vr fs a b c w hw hv h3 hB hs hr h7).mono fun q w' h => left_good h ?_ ?_
      · unfold tkRoad rdRoad; rw [if_pos h7, if_neg (by simp [hh]), if_pos (by omega)]
      · unfold rdRoad; rw [if_neg (by simp [hh]), if_pos (by omega)]; intro h'; cases h'
    · refine (taken_R_in g cap B r vs vr fs a b c w hw hv h3 hB ⟨hg.lo, hg.hi⟩ hs hr (by omega)).mono fun q w' h => left_good h ?_ ?_
      · exact (tkR_eq hh (by omega)).1
      · exact (tkR_eq hh (by omega)).2

/- a line that is not of the form -/
theorem not_formed {r : Rd} {f : List UInt8} {fs : List (List UInt8)} {l : List UInt8} (hl : flds l = f :: fs) (h : formedS f fs (!r.head) = false) : (rdLine r l).2 = 2 := by
  unfold rdLine; rw [hl]
  show (if fs.all numOk = true then rdVals r f (fs.map numV) else (r, 2)).2 = 2
  split
  · rename_i hok
    rcases letters f with rfl | rfl | rfl | ⟨e1, e2, e3⟩
    · by_cases h5 : fs.length = 5
      · have hh : r.head = true := by
          cases hh : r.head
          · simp [formedS, needS, h5, hh, hok] at h
          · rfl
        obtain ⟨a, b, c, d, e, hv⟩ := vals5 h5
        rw [hv]; show (rdDepot r a b c d e).2 = 2; unfold rdDepot; rw [if_pos hh]
      · unfold rdVals; rw [if_pos rfl]; split
        · rename_i hv; exact absurd (by have := congrArg List.length hv; simpa using this) h5
        · rfl
    · by_cases h5 : fs.length = 5
      · have hh : r.head = false := by
          cases hh : r.head
          · rfl
          · simp [formedS, needS, h5, hh, hok] at h
        obtain ⟨a, b, c, d, e, hv⟩ := vals5 h5
        rw [hv]; show (rdStop r a b c d e).2 = 2; unfold rdStop; rw [if_pos hh]
      · unfold rdVals; rw [if_neg (by decide), if_pos rfl]; split
        · rename_i hv; exact absurd (by have := congrArg List.length hv; simpa using this) h5
        · rfl
    · by_cases h5 : fs.length = 3
      · have hh : r.head = false := by
          cases hh : r.head
          · rfl
          · simp [formedS, needS, h5, hh, hok] at h
        obtain ⟨a, b, c, hv⟩ := vals3 h5
        rw [hv]; show (rdRoad r a b c).2 = 2; unfold rdRoad; rw [if_pos hh]
      · unfold rdVals; rw [if_neg (by decide), if_neg (by decide), if_pos rfl]; split
        · rename_i hv; exact absurd (by have := congrArg List.length hv; simpa using this) h5
        · rfl
    · unfold rdVals; rw [if_neg e1, if_neg e2, if_neg e3]
  · rfl
theorem is_formed {r : Rd} {f : List UInt8} {fs : List (List UInt8)} {l : List UInt8} (hl : flds l = f :: fs) (h : formedS f fs (!r.head) = true) : rdLine r l = rdVals r f (fs.map numV) := by
  unfold rdLine; rw [hl]; show (if fs.all numOk = true then rdVals r f (fs.map numV) else (r, 2)) = _; rw [if_pos (formed_yes h).2.2]
end Go.Proofs.YtebinaopncclgaaGreatDoor
