/- Walks of the document's answer: a stop or a road more is taken. -/
import Derived.Test.YtebinaopncclgaaGreatDoorRefE
namespace Go.Proofs.YtebinaopncclgaaGreatDoor
open Go.RowKit Go.IntWalk

def tkStop (r : Rd) (a b c d e : Int) : Rd × Int := if r.stops.length = 7 then (r, 3) else ({ r with stops := r.stops ++ [[a, b, c, d, e]] }, if stopOk a b c d e r.nodes = true then 0 else 4)
def tkRoad (r : Rd) (a b c : Int) : Rd × Int := if r.roads.length = 40 then (r, 3) else ({ r with roads := r.roads ++ [[a, b, c]] }, if roadOk a b c r.nodes = true then 0 else 4)
def tkT : List TypeId := [50, 52]
def TkLeft (w : World) (B : Nat) (x : Rd × Int) (q : Ending) (w' : World) : Prop :=
  ∃ vs' vr', q = .returned (.tuple #[inst x.1 vs' vr', .int .i64 x.2]) ∧ w'.ownsRow B 50 5 vs' x.1.stops.length (ints x.1.stops.flatten) ∧ w'.ownsRow B 52 3 vr' x.1.roads.length (ints x.1.roads.flatten) ∧ Below B w w' ∧ Keep tkT w w'

theorem tk_same {w w' : World} {B : Nat} {x : Rd × Int} {r : Rd} {c : Int} {vs vr : Value} (hx : x = (r, c)) (hB : B ≤ w.heap.size) (hs : w.ownsRow B 50 5 vs r.stops.length (ints r.stops.flatten)) (hr : w.ownsRow B 52 3 vr r.roads.length (ints r.roads.flatten)) (hb : Below w.heap.size w w') :
    TkLeft w B x (.returned (.tuple #[inst r vs vr, .int .i64 c])) w' := by
  subst hx
  exact ⟨vs, vr, rfl, own_below hs hb, own_below hr hb, hb.mono hB, Keep.of_below hb⟩

/- what stands behind the call of values -/
structure TkAt (w w1 : World) (g : Nat) (f : List UInt8) (r : Rd) (vs vr : Value) : Prop where
  x : w1.heap[w.heap.size]? = some (.cells #[.int .i64 r.vans, .int .i64 r.load, .int .i64 r.close, .int .i64 r.nodes, .int .i64 r.home, vs, vr] 36 (0, 0))
  z : w1.heap[w.heap.size + 1]? = some (.cells zero7 36 (0, 0))
  f : w1.cell? ⟨g, 0, none⟩ = some (.string ⟨f.toArray⟩)
  g : g < w.heap.size
  b : Below w.heap.size w w1
theorem tk_at {w W w1 : World} {g : Nat} {f : List UInt8} {fs : List (List UInt8)} {r : Rd} {vs vr : Value} (hW : W = (w.alloc (.cells #[.int .i64 r.vans, .int .i64 r.load, .int .i64 r.close, .int .i64 r.nodes, .int .i64 r.home, vs, vr] 36)).alloc (.cells zero7 36)) (hw : Words w g f fs) (hb1 : Below W.heap.size W w1) : TkAt w w1 g f r vs vr := by
  subst hW
  refine ⟨?_, ?_, ((hw.below (below2 w _ _)).below hb1).head, hw.lt, (below2 w _ _).trans (hb1.mono (by simp; omega))⟩
  · rw [hb1.block _ (by simp; omega), Below.heap_alloc _ _ _ (by simp)]; exact heap_alloc_new w _
  · rw [hb1.block _ (by simp)]; exact new_second _ _ _
theorem tk_keep {w w1 w2 : World} {g : Nat} {f : List UInt8} {r : Rd} {vs vr : Value} (h : TkAt w w1 g f r vs vr) (hk : Keep tkT w1 w2) :
    w2.heap[w.heap.size]? = some (.cells #[.int .i64 r.vans, .int .i64 r.load, .int .i64 r.close, .int .i64 r.nodes, .int .i64 r.home, vs, vr] 36 (0, 0)) ∧ w2.heap[w.heap.size + 1]? = some (.cells zero7 36 (0, 0)) :=
  ⟨hk _ _ _ _ h.x (by decide), hk _ _ _ _ h.z (by decide)⟩

set_option maxRecDepth 100000 in
set_option maxHeartbeats 1000000 in
theorem taken_S_many (g cap B : Nat) (r : Rd) (vs vr : Value) (fs : List (List UInt8)) (a b c d e : Int) (w : World) (hw : Words w g [83] fs) (hv : fs.map numV = [a, b, c, d, e]) (hok : fs.all numOk = true) (hB : B ≤ w.heap.size)
    (hs : w.ownsRow B 50 5 vs r.stops.length (ints r.stops.flatten)) (hr : w.ownsRow B 52 3 vr r.roads.length (ints r.roads.flatten)) (hl : r.stops.length = 7) :
    Calls Tryz.prog 63 #[inst r vs vr, .slice (some ⟨g, 0, none⟩) 6 cap] w (TkLeft w B (tkStop r a b c d e)) := by
  have hx : tkStop r a b c d e = (r, 3) := by unfold tkStop; rw [if_pos hl]
  have hl5 : fs.length = 5 := by have := congrArg List.length hv; simpa using this
  have hcon := fun W (hW : Below w.heap.size w W) => values_walk g cap 6 fs W (by omega) (by omega) hok (hw.below hW).lt (hw.below hW).rest
  have HV := hid hcon
  have HWD := hid hw
  have HS := hid hs
  have HR := hid hr
  have HX := hid hx
  obtain ⟨avs, cvs, hvs, _, _⟩ := own_val hs
  obtain ⟨avr, cvr, hvr, _, _⟩ := own_val hr
  subst hvs hvr
  clear hcon hw hv hok hs hr hx
  unfold inst
  go_enter Tryz.func63, Tryz.ntmps63
  go_wp2_with fail
  refine (HV.out _ (below2 w _ _)).mono ?_
  rintro e1 w1 ⟨v, rfl, _, hb1⟩
  have HT := hid (tk_at (r := r) rfl HWD.out hb1)
  obtain ⟨y0, y1, y2, y3, y4, y5, y6, qf⟩ := seven HT.out.x
  obtain ⟨p0, p1, p2, p3, p4, p5, p6, pf⟩ := box7 HT.out.z
  have hg0 := HT.out.f
  have hzl : w.heap.size + 1 < w1.heap.size := (Array.getElem?_eq_some_iff.1 HT.out.z).1
  have hgw := HT.out.g
  have hgl : g < w1.heap.size := by omega
  have HB : Hid (Below w.heap.size w w1) := HT.out.b
  have hn7 : ((r.stops.length : Int) == 7) = true := by simp [hl]
  have HL := hid hl
  clear hb1 HV HWD HT hl5 hl
  go_wp2_with fail
  all_goals
    first
      | (exfalso; simp_all; done)
      | (refine bodyPost_ret (v := .tuple #[.agg #[.int .i64 r.vans, .int .i64 r.load, .int .i64 r.close, .int .i64 r.nodes, .int .i64 r.home, .slice avs r.stops.length cvs, .slice avr r.roads.length cvr], .int .i64 3]) (by simp [results, Tryz.results63, go_sem, p0, p1, p2, p3, p4, p5, p6]; try (have := HL.out; omega)) rfl ?_
         exact tk_same HX.out hB HS.out HR.out (HB.out.trans (below_put7 _ _ _ (by omega) _ _ _ _ _ _ _)))

theorem news_b {w X : World} {cs : Array Value} {t : TypeId} {l : List Value} {b : Nat} (hh : X.heap = (w.alloc (.cells cs t)).heap) (hl : l = cs.toList) (hb : w.heap.size = b) : ∀ j u, l[j]? = some u → X.cell? ((⟨b, 0, none⟩ : Addr).add j) = some u := by
  subst hb; exact news_at hl hh
theorem heap_alloc2_first (w : World) (o o' : Obj) : ((w.alloc o).alloc o').drew.heap[w.heap.size]? = some o := by
  show ((w.alloc o).alloc o').heap[w.heap.size]? = some o
  rw [Below.heap_alloc _ _ _ (by simp)]; exact heap_alloc_new w o
theorem grown_box {w1 X w2 : World} {B k size : Nat} {e : TypeId} {v : Value} {zs : List Value} {o : Obj} (hg : X.grownBy w2 v.ownBlock) (hv : w1.ownsRow B e size v k zs) (h : X.heap[w1.heap.size]? = some o) : w2.heap[w1.heap.size]? = some o := by
  rw [hg.block _ (Array.getElem?_eq_some_iff.1 h).1 (fun he => by have := (hv.lt _ he.symm).2; omega)]; exact h
/- behind an append onto a list of the box, and the store of it -/
theorem tk_append {w w1 X w2 : World} {g : Nat} {f : List UInt8} {r : Rd} {vs vr v : Value} {B k size : Nat} {e : TypeId} {zs : List Value} (h : TkAt w w1 g f r vs vr) (hX : Below w1.heap.size w1 X) (hv : w1.ownsRow B e size v k zs) (he : e ∈ tkT) (hB : B ≤ w.heap.size) (hg : X.grownBy w2 v.ownBlock) :
    w2.heap[w.heap.size]? = some (.cells #[.int .i64 r.vans, .int .i64 r.load, .int .i64 r.close, .int .i64 r.nodes, .int .i64 r.home, vs, vr] 36 (0, 0)) ∧ w2.heap[w.heap.size + 1]? = some (.cells zero7 36 (0, 0)) ∧ Below B w w2 ∧ Keep tkT w w2 := by
  have hk : Keep tkT w1 w2 := (Keep.of_below hX).trans (Keep.grown (own_below hv hX) he hg)
  have hs := h.b.size
  have hs1 := hX.size
  exact ⟨hk _ _ _ _ h.x (by decide), hk _ _ _ _ h.z (by decide), (h.b.mono hB).trans ((hX.mono (by omega)).trans ((Below.refl _ _).grown hg (by omega) (fun k hk => (hv.lt k hk).1))), (Keep.of_below h.b).trans hk⟩
theorem seven_set5 {w : World} {b : Nat} {x0 x1 x2 x3 x4 x5 x6 u : Value} {t : TypeId} (h : w.heap[b]? = some (.cells #[x0, x1, x2, x3, x4, x5, x6] t (0, 0))) : (w.setCell ⟨b, 5, none⟩ u).heap[b]? = some (.cells #[x0, x1, x2, x3, x4, u, x6] t (0, 0)) := heap_setCell_same w b 5 _ _ u h
theorem seven_set6 {w : World} {b : Nat} {x0 x1 x2 x3 x4 x5 x6 u : Value} {t : TypeId} (h : w.heap[b]? = some (.cells #[x0, x1, x2, x3, x4, x5, x6] t (0, 0))) : (w.setCell ⟨b, 6, none⟩ u).heap[b]? = some (.cells #[x0, x1, x2, x3, x4, x5, u] t (0, 0)) := heap_setCell_same w b 6 _ _ u h

theorem seven_at {w : World} {b : Nat} {cs cs' : Array Value} {t : TypeId} (h : w.heap[b]? = some (.cells cs t (0, 0))) (hc : cs = cs' := by rfl) : w.heap[b]? = some (.cells cs' t (0, 0)) := by subst hc; exact h
/- behind the store, and a call that writes nothing -/
theorem tk_left {w w2 w3 : World} {xs : Array Value} {B k m size size' o : Nat} {e e' : TypeId} {v v' u : Value} {zs zs' : List Value}
    (hx : w2.heap[w.heap.size]? = some (.cells xs 36 (0, 0))) (hz : w2.heap[w.heap.size + 1]? = some (.cells zero7 36 (0, 0))) (hb : Below B w w2) (hk : Keep tkT w w2) (ho : w2.ownsRow B e size v k zs) (hr : w2.ownsRow B e' size' v' m zs')
    (he : e ≠ 36) (he' : e' ≠ 36) (_hl : w.heap.size < w2.heap.size) (hB : B ≤ w.heap.size) (h3 : Below (w2.setCell ⟨w.heap.size, o, none⟩ u).heap.size (w2.setCell ⟨w.heap.size, o, none⟩ u) w3) :
    w3.heap[w.heap.size]? = some (.cells (xs.setIfInBounds o u) 36 (0, 0)) ∧ w3.heap[w.heap.size + 1]? = some (.cells zero7 36 (0, 0)) ∧ Below B w w3 ∧ Keep tkT w w3 ∧ w3.ownsRow B e size v k zs ∧ w3.ownsRow B e' size' v' m zs' := by
  have k1 : (w2.setCell ⟨w.heap.size, o, none⟩ u).heap[w.heap.size]? = some (.cells (xs.setIfInBounds o u) 36 (0, 0)) := heap_setCell_same w2 _ o _ _ u hx
  have k2 : (w2.setCell ⟨w.heap.size, o, none⟩ u).heap[w.heap.size + 1]? = some (.cells zero7 36 (0, 0)) := by rw [Below.heap_setCell _ _ _ _ (by show w.heap.size + 1 ≠ w.heap.size; omega)]; exact hz
  have hsz : w2.heap.size ≤ (w2.setCell ⟨w.heap.size, o, none⟩ u).heap.size := ((Below.refl 0 w2).setCell (Nat.zero_le _) u).size
  refine ⟨by rw [h3.block _ (Array.getElem?_eq_some_iff.1 k1).1]; exact k1, by rw [h3.block _ (Array.getElem?_eq_some_iff.1 k2).1]; exact k2, (hb.setCell hB u).trans (h3.mono ?_), ?_, own_below (own_setCell ho hx he u) h3, own_below (own_setCell hr hx he' u) h3⟩
  · have := hb.size; omega
  · intro kk cur t z hkk ht
    have h2 := hk kk cur t z hkk ht
    have hne : kk ≠ w.heap.size := by have := (Array.getElem?_eq_some_iff.1 hkk).1; omega
    have h2' : (w2.setCell ⟨w.heap.size, o, none⟩ u).heap[kk]? = some (.cells cur t z) := by rw [Below.heap_setCell _ _ _ _ hne]; exact h2
    rw [h3.block _ (Array.getElem?_eq_some_iff.1 h2').1]; exact h2'
/- the copy into the result -/
theorem tk_put7 {w w3 : World} {B : Nat} (hb : Below B w w3) (hk : Keep tkT w w3) (hB : B ≤ w.heap.size) (u0 u1 u2 u3 u4 u5 u6 : Value) :
    Below B w (((((((w3.setCell ⟨w.heap.size + 1, 0, none⟩ u0).setCell ⟨w.heap.size + 1, 1, none⟩ u1).setCell ⟨w.heap.size + 1, 2, none⟩ u2).setCell ⟨w.heap.size + 1, 3, none⟩ u3).setCell ⟨w.heap.size + 1, 4, none⟩ u4).setCell ⟨w.heap.size + 1, 5, none⟩ u5).setCell ⟨w.heap.size + 1, 6, none⟩ u6) ∧
    Keep tkT w (((((((w3.setCell ⟨w.heap.size + 1, 0, none⟩ u0).setCell ⟨w.heap.size + 1, 1, none⟩ u1).setCell ⟨w.heap.size + 1, 2, none⟩ u2).setCell ⟨w.heap.size + 1, 3, none⟩ u3).setCell ⟨w.heap.size + 1, 4, none⟩ u4).setCell ⟨w.heap.size + 1, 5, none⟩ u5).setCell ⟨w.heap.size + 1, 6, none⟩ u6) := by
  refine ⟨hb.trans (below_put7 B _ _ (by omega) _ _ _ _ _ _ _), fun k cur t z hkk ht => ?_⟩
  have hne : k ≠ w.heap.size + 1 := by have := (Array.getElem?_eq_some_iff.1 hkk).1; omega
  rw [Below.heap_setCell _ _ _ _ hne, Below.heap_setCell _ _ _ _ hne, Below.heap_setCell _ _ _ _ hne, Below.heap_setCell _ _ _ _ hne, Below.heap_setCell _ _ _ _ hne, Below.heap_setCell _ _ _ _ hne, Below.heap_setCell _ _ _ _ hne]
  exact hk k cur t z hkk ht
theorem tk_done_s {w w3 : World} {B n5 c5 : Nat} {r : Rd} {a b c d e ec : Int} {x : Rd × Int} {ok : Bool} {g5 : Nat} {vr : Value} {u0 u1 u2 u3 u4 u5 u6 : Value} (hx : x = ({ r with stops := r.stops ++ [[a, b, c, d, e]] }, if stopOk a b c d e r.nodes = true then 0 else 4)) (hok : stopOk a b c d e r.nodes = ok)
    (hz : w3.heap[w.heap.size + 1]? = some (.cells zero7 36 (0, 0))) (hb : Below B w w3) (hk : Keep tkT w w3) (ho : w3.ownsRow B 50 5 (.slice (some ⟨g5, 0, none⟩) n5 c5) n5 (ints r.stops.flatten ++ [.int .i64 a, .int .i64 b, .int .i64 c, .int .i64 d, .int .i64 e])) (hr : w3.ownsRow B 52 3 vr r.roads.length (ints r.roads.flatten)) (hB : B ≤ w.heap.size)
    (hn : n5 = r.stops.length + 1 := by rfl) (hec : ec = if ok = true then 0 else 4 := by rfl) :
    TkLeft w B x (.returned (.tuple #[.agg #[.int .i64 r.vans, .int .i64 r.load, .int .i64 r.close, .int .i64 r.nodes, .int .i64 r.home, .slice (some ⟨g5, 0, none⟩) n5 c5, vr], .int .i64 ec])) (((((((w3.setCell ⟨w.heap.size + 1, 0, none⟩ u0).setCell ⟨w.heap.size + 1, 1, none⟩ u1).setCell ⟨w.heap.size + 1, 2, none⟩ u2).setCell ⟨w.heap.size + 1, 3, none⟩ u3).setCell ⟨w.heap.size + 1, 4, none⟩ u4).setCell ⟨w.heap.size + 1, 5, none⟩ u5).setCell ⟨w.heap.size + 1, 6, none⟩ u6) := by
  subst hx hn hec
  obtain ⟨h1, h2⟩ := tk_put7 hb hk hB u0 u1 u2 u3 u4 u5 u6
  refine ⟨_, _, by rw [hok]; rfl, ?_, own_put7 hz hr (by decide), h1, h2⟩
  have := own_put7 (u0 := u0) (u1 := u1) (u2 := u2) (u3 := u3) (u4 := u4) (u5 := u5) (u6 := u6) hz ho (by decide)
  show World.ownsRow _ _ _ _ _ (r.stops ++ [[a, b, c, d, e]]).length (ints (r.stops ++ [[a, b, c, d, e]]).flatten)
  rw [List.length_append, List.flatten_append, ints_append]; simpa [ints] using this

set_option maxRecDepth 100000 in
set_option maxHeartbeats 1000000 in
theorem taken_S_in (g cap B : Nat) (r : Rd) (vs vr : Value) (fs : List (List UInt8)) (a b c d e : Int) (w : World) (hw : Words w g [83] fs) (hv : fs.map numV = [a, b, c, d, e]) (hok : fs.all numOk = true) (hB : B ≤ w.heap.size) (hnod : 0 ≤ r.nodes ∧ r.nodes ≤ 99999)
    (hs : w.ownsRow B 50 5 vs r.stops.length (ints r.stops.flatten)) (hr : w.ownsRow B 52 3 vr r.roads.length (ints r.roads.flatten)) (hl : r.stops.length < 7) :
    Calls Tryz.prog 63 #[inst r vs vr, .slice (some ⟨g, 0, none⟩) 6 cap] w (TkLeft w B (tkStop r a b c d e)) := by
  have hx : tkStop r a b c d e = ({ r with stops := r.stops ++ [[a, b, c, d, e]] }, if stopOk a b c d e r.nodes = true then 0 else 4) := by unfold tkStop; rw [if_neg (by omega)]
  obtain ⟨i0, hi, hz0, hz1, hz2⟩ := info_parts Tryz.infoStop
  have hl5 : fs.length = 5 := by have := congrArg List.length hv; simpa using this
  have hcon := fun W (hW : Below w.heap.size w W) => values_walk g cap 6 fs W (by omega) (by omega) hok (hw.below hW).lt (hw.below hW).rest
  rw [hv] at hcon
  have HV := hid hcon
  have HWD := hid hw
  have HS := hid hs
  have HR := hid hr
  have HX := hid hx
  obtain ⟨avs, cvs, hvs, _, _⟩ := own_val hs
  obtain ⟨avr, cvr, hvr, _, _⟩ := own_val hr
  subst hvs hvr
  clear hcon hw hv hok hs hr hx
  unfold inst
  go_enter Tryz.func63, Tryz.ntmps63
  go_wp2_with fail
  refine (HV.out _ (below2 w _ _)).mono ?_
  rintro e1 w1 ⟨v, rfl, hown, hb1⟩
  obtain ⟨gv, capv, cur, rfl, hgb, hgv, _⟩ := own_shape hown (by simp)
  have hgl : gv < w1.heap.size := (Array.getElem?_eq_some_iff.1 hgv).1
  have v0 : w1.cell? ⟨gv, 0, none⟩ = some (.int .i64 a) := by rw [hown.cellAt 0 (by simp)]; rfl
  have v1 : w1.cell? ⟨gv, 1, none⟩ = some (.int .i64 b) := by rw [hown.cellAt 1 (by simp)]; rfl
  have v2 : w1.cell? ⟨gv, 2, none⟩ = some (.int .i64 c) := by rw [hown.cellAt 2 (by simp)]; rfl
  have v3 : w1.cell? ⟨gv, 3, none⟩ = some (.int .i64 d) := by rw [hown.cellAt 3 (by simp)]; rfl
  have v4 : w1.cell? ⟨gv, 4, none⟩ = some (.int .i64 e) := by rw [hown.cellAt 4 (by simp)]; rfl
  have HT := hid (tk_at (r := r) rfl HWD.out hb1)
  obtain ⟨y0, y1, y2, y3, y4, y5, y6, qf⟩ := seven HT.out.x
  have hg0 := HT.out.f
  have hzl : w.heap.size + 1 < w1.heap.size := (Array.getElem?_eq_some_iff.1 HT.out.z).1
  have hgw := HT.out.g
  have hgl0 : g < w1.heap.size := by omega
  have hbx : w.heap.size < w1.heap.size := by omega
  have HS1 : Hid (w1.ownsRow B 50 5 (.slice avs r.stops.length cvs) r.stops.length (ints r.stops.flatten)) := own_below HS.out HT.out.b
  have hn7 : ((r.stops.length : Int) == 7) = false := by simp; omega
  clear hb1 HV HWD hown hgv hgb y0 y1 y2 y4 y6
  go_wp2_with fail
  go_region
  go_wp2_with (at_builtin; refine wpList_append_own _ rfl _ _ 33 rfl B 50 i0 (.agg #[.int .i64 0, .int .i64 0, .int .i64 0, .int .i64 0, .int .i64 0]) 5 40 Tryz.underlying33 hi hz0 hz1 hz2 rfl (by decide) _ _ _ rfl ((HS1.out.alloc _).alloc _) ⟨w1.heap.size + 1, 0, none⟩ 1 1 [.int .i64 a, .int .i64 b, .int .i64 c, .int .i64 d, .int .i64 e] rfl rfl ?c1 ?c2 ?c3 ?c4 ?c5 ?_)
  case c1 => exact news_b (w := w1.alloc _) rfl rfl (by simp)
  case c2 => exact ints5 _ _ _ _ _
  case c3 => unfold maxLen; omega
  case c4 => omega
  case c5 => simp; omega
  intro v' w2 hown' hgrow _
  have HO := hid hown'
  obtain ⟨g5, cap5, cur5, hv5, hg5, hg5', _⟩ := own_shape hown' (by omega)
  subst hv5
  obtain ⟨hx2, hzz2, hb2, hk2⟩ := tk_append HT.out ((below2 w1 _ _).drew) HS1.out (by decide) hB hgrow
  have hbox := grown_box hgrow HS1.out (heap_alloc2_first w1 (.cells #[.int .i64 a, .int .i64 b, .int .i64 c, .int .i64 d, .int .i64 e] 50) _)
  have HR2 : Hid (w2.ownsRow B 52 3 (.slice avr r.roads.length cvr) r.roads.length (ints r.roads.flatten)) :=
    (own_below (own_below HR.out HT.out.b) ((below2 w1 _ _).drew)).kept hgrow (own_ne (own_below HR.out HT.out.b) HS1.out (by decide))
  have HB2 := hid hb2
  have HK2 := hid hk2
  have HX2 := hid hx2
  have HZ2 := hid hzz2
  obtain ⟨x0, x1, x2, x3, x4, x5, x6, xf⟩ := seven hx2
  have s0 : w2.cell? ⟨w1.heap.size, 0, none⟩ = some (.int .i64 a) := by rw [cell_of_row _ _ _ _ _ _ hbox]; rfl
  have s1 : w2.cell? ⟨w1.heap.size, 1, none⟩ = some (.int .i64 b) := by rw [cell_of_row _ _ _ _ _ _ hbox]; rfl
  have s2 : w2.cell? ⟨w1.heap.size, 2, none⟩ = some (.int .i64 c) := by rw [cell_of_row _ _ _ _ _ _ hbox]; rfl
  have s3 : w2.cell? ⟨w1.heap.size, 3, none⟩ = some (.int .i64 d) := by rw [cell_of_row _ _ _ _ _ _ hbox]; rfl
  have s4 : w2.cell? ⟨w1.heap.size, 4, none⟩ = some (.int .i64 e) := by rw [cell_of_row _ _ _ _ _ _ hbox]; rfl
  have hl2 : w1.heap.size < w2.heap.size := (Array.getElem?_eq_some_iff.1 hbox).1
  have hl3 : w.heap.size < w2.heap.size := by omega
  have hne : w1.heap.size ≠ w.heap.size := by omega
  clear hown' hgrow hx2 hzz2 hb2 hk2 hbox HS1 HS HR HT v0 v1 v2 v3 v4 y3 y5 qf hg0 hgw hgl0 hgl hn7 hg5 hg5' hi hz0 hz1 hz2 hl5
  go_wp2_with fail
  refine (stopFine_any a b c d e r.nodes _ (by omega)).mono ?_
  rintro e3 w3 ⟨rfl, hb3⟩
  have hw3 := tk_left HX2.out HZ2.out HB2.out HK2.out HO.out HR2.out (u := .slice (some ⟨g5, 0, none⟩) (r.stops.length + 1) cap5) (o := 5) (by decide) (by decide) (by omega) hB hb3
  obtain ⟨kx, kz, kb, kk, ko, kr⟩ := hw3
  have HKX := hid kx
  have HKZ := hid kz
  have HKB := hid kb
  have HKK := hid kk
  have HKO := hid ko
  have HKR := hid kr
  obtain ⟨q0, q1, q2, q3, q4, q5, q6, qf⟩ := seven (seven_at kx)
  obtain ⟨p0, p1, p2, p3, p4, p5, p6, pf⟩ := box7 kz
  have hzl2 : w.heap.size + 1 < w3.heap.size := (Array.getElem?_eq_some_iff.1 kz).1
  clear hb3 kx kz kb kk ko kr HX2 HZ2 HB2 HK2 HO HR2 x0 x1 x2 x3 x4 x5 x6 xf s0 s1 s2 s3 s4 hl2 hl3 hne hzl hbx hl qf
  cases hok2 : stopOk a b c d e r.nodes
  · go_wp2_with fail
    all_goals
      first
        | (exfalso; simp_all; done)
        | (refine bodyPost_ret (v := .tuple #[.agg #[.int .i64 r.vans, .int .i64 r.load, .int .i64 r.close, .int .i64 r.nodes, .int .i64 r.home, .slice (some ⟨g5, 0, none⟩) (r.stops.length + 1) cap5, .slice avr r.roads.length cvr], .int .i64 4]) (by simp [results, Tryz.results63, go_sem, p0, p1, p2, p3, p4, p5, p6]) rfl ?_
           exact tk_done_s HX.out hok2 HKZ.out HKB.out HKK.out HKO.out HKR.out hB)
  · go_wp2_with fail
    all_goals
      first
        | (exfalso; simp_all; done)
        | (refine bodyPost_ret (v := .tuple #[.agg #[.int .i64 r.vans, .int .i64 r.load, .int .i64 r.close, .int .i64 r.nodes, .int .i64 r.home, .slice (some ⟨g5, 0, none⟩) (r.stops.length + 1) cap5, .slice avr r.roads.length cvr], .int .i64 0]) (by simp [results, Tryz.results63, go_sem, p0, p1, p2, p3, p4, p5, p6]) rfl ?_
           exact tk_done_s HX.out hok2 HKZ.out HKB.out HKK.out HKO.out HKR.out hB)
end Go.Proofs.YtebinaopncclgaaGreatDoor
