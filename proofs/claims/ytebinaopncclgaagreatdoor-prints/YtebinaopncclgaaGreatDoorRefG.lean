/- Walks of the document's answer: a road more is taken. -/
import Derived.Test.YtebinaopncclgaaGreatDoorRefF
namespace Go.Proofs.YtebinaopncclgaaGreatDoor
open Go.RowKit Go.IntWalk

set_option maxRecDepth 100000 in
set_option maxHeartbeats 1000000 in
theorem taken_R_many (g cap B : Nat) (r : Rd) (vs vr : Value) (fs : List (List UInt8)) (a b c : Int) (w : World) (hw : Words w g [82] fs) (hv : fs.map numV = [a, b, c]) (hok : fs.all numOk = true) (hB : B ≤ w.heap.size)
    (hs : w.ownsRow B 50 5 vs r.stops.length (ints r.stops.flatten)) (hr : w.ownsRow B 52 3 vr r.roads.length (ints r.roads.flatten)) (hl : r.roads.length = 40) :
    Calls Tryz.prog 63 #[inst r vs vr, .slice (some ⟨g, 0, none⟩) 4 cap] w (TkLeft w B (tkRoad r a b c)) := by
  have hx : tkRoad r a b c = (r, 3) := by unfold tkRoad; rw [if_pos hl]
  have hl5 : fs.length = 3 := by have := congrArg List.length hv; simpa using this
  have hcon := fun W (hW : Below w.heap.size w W) => values_walk g cap 4 fs W (by omega) (by omega) hok (hw.below hW).lt (hw.below hW).rest
  have HV := hid hcon
  have HWD := hid hw
  have HS := hid hs
  have HR := hid hr
  have HX := hid hx
  obtain ⟨avs, cvs, hvs, _, _⟩ := own_val hs
  obtain ⟨avr, cvr, hvr, _, _⟩ := own_val hr
  subst hvs hvr
  clear hcon hw hv hok hs hr hx
  unfold inst
  go_enter Tryz.func63, Tryz.ntmps63
  go_wp2_with fail
  refine (HV.out _ (below2 w _ _)).mono ?_
  rintro e1 w1 ⟨v, rfl, _, hb1⟩
  have HT := hid (tk_at (r := r) rfl HWD.out hb1)
  obtain ⟨y0, y1, y2, y3, y4, y5, y6, qf⟩ := seven HT.out.x
  obtain ⟨p0, p1, p2, p3, p4, p5, p6, pf⟩ := box7 HT.out.z
  have hg0 := HT.out.f
  have hzl : w.heap.size + 1 < w1.heap.size := (Array.getElem?_eq_some_iff.1 HT.out.z).1
  have hgw := HT.out.g
  have hgl : g < w1.heap.size := by omega
  have HB : Hid (Below w.heap.size w w1) := HT.out.b
  have hn7 : ((r.roads.length : Int) == 40) = true := by simp [hl]
  have HL := hid hl
  clear hb1 HV HWD HT hl5 hl
  go_wp2_with fail
  all_goals
    first
      | (exfalso; simp_all; done)
      | (refine bodyPost_ret (v := .tuple #[.agg #[.int .i64 r.vans, .int .i64 r.load, .int .i64 r.close, .int .i64 r.nodes, .int .i64 r.home, .slice avs r.stops.length cvs, .slice avr r.roads.length cvr], .int .i64 3]) (by simp [results, Tryz.results63, go_sem, p0, p1, p2, p3, p4, p5, p6]; try (have := HL.out; omega)) rfl ?_
         exact tk_same HX.out hB HS.out HR.out (HB.out.trans (below_put7 _ _ _ (by omega) _ _ _ _ _ _ _)))

theorem tk_done_r {w w3 : World} {B n5 c5 : Nat} {r : Rd} {a b c ec : Int} {x : Rd × Int} {ok : Bool} {g5 : Nat} {vs : Value} {u0 u1 u2 u3 u4 u5 u6 : Value} (hx : x = ({ r with roads := r.roads ++ [[a, b, c]] }, if roadOk a b c r.nodes = true then 0 else 4)) (hok : roadOk a b c r.nodes = ok)
    (hz : w3.heap[w.heap.size + 1]? = some (.cells zero7 36 (0, 0))) (hb : Below B w w3) (hk : Keep tkT w w3) (ho : w3.ownsRow B 52 3 (.slice (some ⟨g5, 0, none⟩) n5 c5) n5 (ints r.roads.flatten ++ [.int .i64 a, .int .i64 b, .int .i64 c])) (hr : w3.ownsRow B 50 5 vs r.stops.length (ints r.stops.flatten)) (hB : B ≤ w.heap.size)
    (hn : n5 = r.roads.length + 1 := by rfl) (hec : ec = if ok = true then 0 else 4 := by rfl) :
    TkLeft w B x (.returned (.tuple #[.agg #[.int .i64 r.vans, .int .i64 r.load, .int .i64 r.close, .int .i64 r.nodes, .int .i64 r.home, vs, .slice (some ⟨g5, 0, none⟩) n5 c5], .int .i64 ec])) (((((((w3.setCell ⟨w.heap.size + 1, 0, none⟩ u0).setCell ⟨w.heap.size + 1, 1, none⟩ u1).setCell ⟨w.heap.size + 1, 2, none⟩ u2).setCell ⟨w.heap.size + 1, 3, none⟩ u3).setCell ⟨w.heap.size + 1, 4, none⟩ u4).setCell ⟨w.heap.size + 1, 5, none⟩ u5).setCell ⟨w.heap.size + 1, 6, none⟩ u6) := by
  subst hx hn hec
  obtain ⟨h1, h2⟩ := tk_put7 hb hk hB u0 u1 u2 u3 u4 u5 u6
  refine ⟨_, _, by rw [hok]; rfl, own_put7 hz hr (by decide), ?_, h1, h2⟩
  have := own_put7 (u0 := u0) (u1 := u1) (u2 := u2) (u3 := u3) (u4 := u4) (u5 := u5) (u6 := u6) hz ho (by decide)
  show World.ownsRow _ _ _ _ _ (r.roads ++ [[a, b, c]]).length (ints (r.roads ++ [[a, b, c]]).flatten)
  rw [List.length_append, List.flatten_append, ints_append]; simpa [ints] using this

set_option maxRecDepth 100000 in
set_option maxHeartbeats 1000000 in
theorem taken_R_in (g cap B : Nat) (r : Rd) (vs vr : Value) (fs : List (List UInt8)) (a b c : Int) (w : World) (hw : Words w g [82] fs) (hv : fs.map numV = [a, b, c]) (hok : fs.all numOk = true) (hB : B ≤ w.heap.size) (hnod : 0 ≤ r.nodes ∧ r.nodes ≤ 99999)
    (hs : w.ownsRow B 50 5 vs r.stops.length (ints r.stops.flatten)) (hr : w.ownsRow B 52 3 vr r.roads.length (ints r.roads.flatten)) (hl : r.roads.length < 40) :
    Calls Tryz.prog 63 #[inst r vs vr, .slice (some ⟨g, 0, none⟩) 4 cap] w (TkLeft w B (tkRoad r a b c)) := by
  have hx : tkRoad r a b c = ({ r with roads := r.roads ++ [[a, b, c]] }, if roadOk a b c r.nodes = true then 0 else 4) := by unfold tkRoad; rw [if_neg (by omega)]
  obtain ⟨i0, hi, hz0, hz1, hz2⟩ := info_parts Tryz.infoRoad
  have hl5 : fs.length = 3 := by have := congrArg List.length hv; simpa using this
  have hcon := fun W (hW : Below w.heap.size w W) => values_walk g cap 4 fs W (by omega) (by omega) hok (hw.below hW).lt (hw.below hW).rest
  rw [hv] at hcon
  have HV := hid hcon
  have HWD := hid hw
  have HS := hid hs
  have HR := hid hr
  have HX := hid hx
  obtain ⟨avs, cvs, hvs, _, _⟩ := own_val hs
  obtain ⟨avr, cvr, hvr, _, _⟩ := own_val hr
  subst hvs hvr
  clear hcon hw hv hok hs hr hx
  unfold inst
  go_enter Tryz.func63, Tryz.ntmps63
  go_wp2_with fail
  refine (HV.out _ (below2 w _ _)).mono ?_
  rintro e1 w1 ⟨v, rfl, hown, hb1⟩
  obtain ⟨gv, capv, cur, rfl, hgb, hgv, _⟩ := own_shape hown (by simp)
  have hgl : gv < w1.heap.size := (Array.getElem?_eq_some_iff.1 hgv).1
  have v0 : w1.cell? ⟨gv, 0, none⟩ = some (.int .i64 a) := by rw [hown.cellAt 0 (by simp)]; rfl
  have v1 : w1.cell? ⟨gv, 1, none⟩ = some (.int .i64 b) := by rw [hown.cellAt 1 (by simp)]; rfl
  have v2 : w1.cell? ⟨gv, 2, none⟩ = some (.int .i64 c) := by rw [hown.cellAt 2 (by simp)]; rfl
  have HT := hid (tk_at (r := r) rfl HWD.out hb1)
  obtain ⟨y0, y1, y2, y3, y4, y5, y6, qf⟩ := seven HT.out.x
  have hg0 := HT.out.f
  have hzl : w.heap.size + 1 < w1.heap.size := (Array.getElem?_eq_some_iff.1 HT.out.z).1
  have hgw := HT.out.g
  have hgl0 : g < w1.heap.size := by omega
  have hbx : w.heap.size < w1.heap.size := by omega
  have HS1 : Hid (w1.ownsRow B 52 3 (.slice avr r.roads.length cvr) r.roads.length (ints r.roads.flatten)) := own_below HR.out HT.out.b
  have hn7 : ((r.roads.length : Int) == 40) = false := by simp; omega
  clear hb1 HV HWD hown hgv hgb y0 y1 y2 y4 y5
  go_wp2_with fail
  go_region
  go_wp2_with (at_builtin; refine wpList_append_own _ rfl _ _ 34 rfl B 52 i0 (.agg #[.int .i64 0, .int .i64 0, .int .i64 0]) 3 24 Tryz.underlying34 hi hz0 hz1 hz2 rfl (by decide) _ _ _ rfl ((HS1.out.alloc _).alloc _) ⟨w1.heap.size + 1, 0, none⟩ 1 1 [.int .i64 a, .int .i64 b, .int .i64 c] rfl rfl ?c1 ?c2 ?c3 ?c4 ?c5 ?_)
  case c1 => exact news_b (w := w1.alloc _) rfl rfl (by simp)
  case c2 => exact ints3 _ _ _
  case c3 => unfold maxLen; omega
  case c4 => omega
  case c5 => simp; omega
  intro v' w2 hown' hgrow _
  have HO := hid hown'
  obtain ⟨g5, cap5, cur5, hv5, hg5, hg5', _⟩ := own_shape hown' (by omega)
  subst hv5
  obtain ⟨hx2, hzz2, hb2, hk2⟩ := tk_append HT.out ((below2 w1 _ _).drew) HS1.out (by decide) hB hgrow
  have hbox := grown_box hgrow HS1.out (heap_alloc2_first w1 (.cells #[.int .i64 a, .int .i64 b, .int .i64 c] 52) _)
  have HR2 : Hid (w2.ownsRow B 50 5 (.slice avs r.stops.length cvs) r.stops.length (ints r.stops.flatten)) :=
    (own_below (own_below HS.out HT.out.b) ((below2 w1 _ _).drew)).kept hgrow (own_ne (own_below HS.out HT.out.b) HS1.out (by decide))
  have HB2 := hid hb2
  have HK2 := hid hk2
  have HX2 := hid hx2
  have HZ2 := hid hzz2
  obtain ⟨x0, x1, x2, x3, x4, x5, x6, xf⟩ := seven hx2
  have s0 : w2.cell? ⟨w1.heap.size, 0, none⟩ = some (.int .i64 a) := by rw [cell_of_row _ _ _ _ _ _ hbox]; rfl
  have s1 : w2.cell? ⟨w1.heap.size, 1, none⟩ = some (.int .i64 b) := by rw [cell_of_row _ _ _ _ _ _ hbox]; rfl
  have s2 : w2.cell? ⟨w1.heap.size, 2, none⟩ = some (.int .i64 c) := by rw [cell_of_row _ _ _ _ _ _ hbox]; rfl
  have hl2 : w1.heap.size < w2.heap.size := (Array.getElem?_eq_some_iff.1 hbox).1
  have hl3 : w.heap.size < w2.heap.size := by omega
  have hne : w1.heap.size ≠ w.heap.size := by omega
  clear hown' hgrow hx2 hzz2 hb2 hk2 hbox HS1 HS HR HT v0 v1 v2 y3 y6 qf hg0 hgw hgl0 hgl hn7 hg5 hg5' hi hz0 hz1 hz2 hl5
  go_wp2_with fail
  refine (roadFine_any a b c r.nodes _ (by omega)).mono ?_
  rintro e3 w3 ⟨rfl, hb3⟩
  have hw3 := tk_left HX2.out HZ2.out HB2.out HK2.out HO.out HR2.out (u := .slice (some ⟨g5, 0, none⟩) (r.roads.length + 1) cap5) (o := 6) (by decide) (by decide) (by omega) hB hb3
  obtain ⟨kx, kz, kb, kk, ko, kr⟩ := hw3
  have HKX := hid kx
  have HKZ := hid kz
  have HKB := hid kb
  have HKK := hid kk
  have HKO := hid ko
  have HKR := hid kr
  obtain ⟨q0, q1, q2, q3, q4, q5, q6, qf⟩ := seven (seven_at kx)
  obtain ⟨p0, p1, p2, p3, p4, p5, p6, pf⟩ := box7 kz
  have hzl2 : w.heap.size + 1 < w3.heap.size := (Array.getElem?_eq_some_iff.1 kz).1
  clear hb3 kx kz kb kk ko kr HX2 HZ2 HB2 HK2 HO HR2 x0 x1 x2 x3 x4 x5 x6 xf s0 s1 s2 hl2 hl3 hne hzl hbx hl qf
  cases hok2 : roadOk a b c r.nodes
  · go_wp2_with fail
    all_goals
      first
        | (exfalso; simp_all; done)
        | (refine bodyPost_ret (v := .tuple #[.agg #[.int .i64 r.vans, .int .i64 r.load, .int .i64 r.close, .int .i64 r.nodes, .int .i64 r.home, .slice avs r.stops.length cvs, .slice (some ⟨g5, 0, none⟩) (r.roads.length + 1) cap5], .int .i64 4]) (by simp [results, Tryz.results63, go_sem, p0, p1, p2, p3, p4, p5, p6]) rfl ?_
           exact tk_done_r HX.out hok2 HKZ.out HKB.out HKK.out HKO.out HKR.out hB)
  · go_wp2_with fail
    all_goals
      first
        | (exfalso; simp_all; done)
        | (refine bodyPost_ret (v := .tuple #[.agg #[.int .i64 r.vans, .int .i64 r.load, .int .i64 r.close, .int .i64 r.nodes, .int .i64 r.home, .slice avs r.stops.length cvs, .slice (some ⟨g5, 0, none⟩) (r.roads.length + 1) cap5], .int .i64 0]) (by simp [results, Tryz.results63, go_sem, p0, p1, p2, p3, p4, p5, p6]) rfl ?_
           exact tk_done_r HX.out hok2 HKZ.out HKB.out HKK.out HKO.out HKR.out hB)

end Go.Proofs.YtebinaopncclgaaGreatDoor
