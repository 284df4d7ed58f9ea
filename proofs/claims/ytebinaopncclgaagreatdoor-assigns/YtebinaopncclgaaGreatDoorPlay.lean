/- Walks of the statements: one step: Parse. -/
import Derived.Test.YtebinaopncclgaaGreatDoorHoldI
import Derived.Test.YtebinaopncclgaaGreatDoorStill
import Derived.Test.YtebinaopncclgaaGreatDoorPlainF
namespace Go.Proofs.YtebinaopncclgaaGreatDoor
open Go.RowKit Go.IntWalk

/- every line that was taken in has its numbers -/
structure RdShape (r : Rd) : Prop where
  stops : ∀ s ∈ r.stops, s.length = 5
  roads : ∀ s ∈ r.roads, s.length = 3
theorem shape0 : RdShape Rd0 := ⟨by simp [Rd0], by simp [Rd0]⟩
theorem rdVals_shape {r : Rd} (h : RdShape r) (f : List UInt8) (vs : List Int) : RdShape (rdVals r f vs).1 := by
  have hd : ∀ a b c d e, RdShape (rdDepot r a b c d e).1 := by
    intro a b c d e; unfold rdDepot; split
    · exact h
    · split
      · exact ⟨by simp, by simp⟩
      · exact h
  have hst : ∀ a b c d e, RdShape (rdStop r a b c d e).1 := by
    intro a b c d e; unfold rdStop; split
    · exact h
    · split
      · exact h
      · split
        · exact ⟨fun s hs => by simp at hs; rcases hs with hs | rfl; exact h.stops s hs; rfl, h.roads⟩
        · exact h
  have hrd : ∀ a b c, RdShape (rdRoad r a b c).1 := by
    intro a b c; unfold rdRoad; split
    · exact h
    · split
      · exact h
      · split
        · exact ⟨h.stops, fun s hs => by simp at hs; rcases hs with hs | rfl; exact h.roads s hs; rfl⟩
        · exact h
  unfold rdVals
  split
  · split
    · exact hd _ _ _ _ _
    · exact h
  · split
    · split
      · exact hst _ _ _ _ _
      · exact h
    · split
      · split
        · exact hrd _ _ _
        · exact h
      · exact h
theorem rdLine_shape {r : Rd} (h : RdShape r) (l : List UInt8) : RdShape (rdLine r l).1 := by
  unfold rdLine
  split
  · exact h
  · split
    · exact rdVals_shape h _ _
    · exact h
theorem rdGo_shape (ls : List (List UInt8)) : ∀ {r : Rd}, RdShape r → ∀ i, RdShape (rdGo r i ls).1 := by
  induction ls with
  | nil => intro r h i; exact h
  | cons l t ih =>
    intro r h i
    unfold rdGo
    split
    · exact ih (rdLine_shape h l) _
    · exact shape0
theorem parse_shape (l : List UInt8) : RdShape (parseS l).1 := by
  unfold parseS
  split
  · exact shape0
  · split
    · split
      · exact rdGo_shape _ shape0 0
      · exact shape0
    · exact shape0
theorem rdGo_fine (ls : List (List UInt8)) : ∀ {r : Rd}, RdFine r → ∀ i, RdFine (rdGo r i ls).1 := by
  induction ls with
  | nil => intro r h i; exact h
  | cons l t ih =>
    intro r h i
    unfold rdGo
    split
    · exact ih (rdLine_fine h l) _
    · exact ⟨by simp [Rd0], by simp [Rd0]⟩
theorem parse_fine (l : List UInt8) : RdFine (parseS l).1 := by
  have h0 : RdFine Rd0 := ⟨by simp [Rd0], by simp [Rd0]⟩
  unfold parseS
  split
  · exact h0
  · split
    · split
      · exact rdGo_fine _ h0 0
      · exact h0
    · exact h0

def cellF (ss : List (List Int)) (i j : Nat) : Int := (ss.getD i []).getD j 0
theorem lies_own {w : World} {B m : Nat} {e : TypeId} {v : Value} {ss : List (List Int)} (h : w.ownsRow B e m v ss.length (ints ss.flatten)) (hs : ∀ s ∈ ss, s.length = m) : ∃ ao c, v = .slice ao ss.length c ∧ Lies w ao ss.length m (cellF ss) := by
  obtain ⟨ao, c, hv, h1, h2⟩ := own_val h
  refine ⟨ao, c, hv, fun hn => ?_⟩
  subst hv
  cases ao with
  | none => exact absurd (h2 rfl) (by omega)
  | some a =>
    obtain ⟨g, rfl, _, hg⟩ := h1 a rfl
    refine ⟨g, 0, rfl, hg, fun i j hi hj => ?_⟩
    have hlen := hs ss[i] (List.getElem_mem hi)
    have hij : i * m + j < ss.length * m := by
      have h3 : i * m + m ≤ ss.length * m := by rw [← Nat.succ_mul]; exact Nat.mul_le_mul_right m hi
      omega
    rw [Nat.zero_add, h.cellAt (i * m + j) hij]
    have hz : ss[i][j]? = some (cellF ss i j) := by
      unfold cellF
      rw [List.getElem?_eq_getElem (by omega)]
      simp [hi, List.getD, hlen, hj]
    exact flat_ints hs hi hj hz

set_option maxHeartbeats 1000000 in
theorem dparse_any (s : ByteArray) (w : World) (hsm : s.size ≤ maxLen) : Calls Tryz.prog 21 #[.string s] w (Parsed w (parseS s.data.toList)) := by
  have hp := parse_any s (w.alloc (.cells zero7 36)) hsm
  generalize parseS s.data.toList = x at *
  have HP := hide hp
  clear hp
  go_enter Tryz.func21, Tryz.ntmps21
  go_wp2_with fail
  refine HP.out.mono ?_
  rintro e1 w1 ⟨vs, vr, rfl, hs, hr, hb⟩
  have hbox : w1.heap[w.heap.size]? = some (.cells zero7 36 (0, 0)) := by rw [hb.block _ (by simp)]; exact heap_alloc_new w _
  obtain ⟨b0, b1, b2, b3, b4, b5, b6, hfz⟩ := box7 hbox
  have HW1 : Hid (Below w.heap.size w w1) := (below1 w _).trans (hb.mono (by simp))
  obtain ⟨aos, caps, hv1, _, _⟩ := own_val hs
  obtain ⟨aor, capr, hv2, _, _⟩ := own_val hr
  subst hv1 hv2
  have HS := hide (own_base hs (show w.heap.size ≤ _ by simp))
  have HR := hide (own_base hr (show w.heap.size ≤ _ by simp))
  have HBX := hide hbox
  clear hs hr hb HP hbox
  unfold inst
  go_wp2
  refine bodyPost_ret (v := .tuple #[inst x.1 (.slice aos x.1.stops.length caps) (.slice aor x.1.roads.length capr), .int .i64 x.2.1, .int .i64 x.2.2]) (by simp [results, Tryz.results21, go_sem, inst, b0, b1, b2, b3, b4, b5, b6]) rfl ?_
  exact ⟨_, _, rfl, own_put7 HBX.out HS.out (by decide), own_put7 HBX.out HR.out (by decide), HW1.out.trans (below_put7 _ _ _ (Nat.le_refl _) _ _ _ _ _ _ _)⟩

set_option maxHeartbeats 400000 in
theorem num_any (e : Int) (w : World) (h : -9223372036854775808 ≤ e ∧ e ≤ 9223372036854775807) : Calls Tryz.prog 19 #[.int .i64 e] w fun q w' => q = .returned (.int .i64 e) ∧ w' = w := by
  obtain ⟨h1, h2⟩ := h
  go_enter Tryz.func19, Tryz.ntmps19
  go_wp2
  go_ret
  exact ⟨rfl, rfl⟩

/- a step, as it lies in a script -/
structure OpV where
  k : Int
  n : Int
  s : ByteArray
  t : ByteArray
  u : ByteArray
  am : Option Addr
  nm : Nat
  cm : Nat
  x0 : Int
  x1 : Int
  x2 : Int
  x3 : Int
  x4 : Int
  aS : Option Addr
  nS : Nat
  cS : Nat
  aR : Option Addr
  nR : Nat
  cR : Nat
  aL : Option Addr
  nL : Nat
  cL : Nat
def OpV.vals (o : OpV) : Array Value := #[.int .i64 o.k, .int .i64 o.n, .string o.s, .string o.t, .string o.u, .slice o.am o.nm o.cm, .int .i64 o.x0, .int .i64 o.x1, .int .i64 o.x2, .int .i64 o.x3, .int .i64 o.x4, .slice o.aS o.nS o.cS, .slice o.aR o.nR o.cR, .slice o.aL o.nL o.cL]
theorem op_box (o : OpV) (w : World) : (w.alloc (.cells o.vals 39)).heap[w.heap.size]? = some (.cells o.vals 39 (0, 0)) := heap_alloc_new w _
theorem op_below {o : OpV} {W w' : World} {b : Nat} (h : W.heap[b]? = some (.cells o.vals 39 (0, 0))) (hb : Below W.heap.size W w') : w'.heap[b]? = some (.cells o.vals 39 (0, 0)) := by
  rw [hb.block _ (Array.getElem?_eq_some_iff.1 h).1]; exact h
theorem op_s {o : OpV} {W : World} {b : Nat} (h : W.heap[b]? = some (.cells o.vals 39 (0, 0))) : W.cell? ⟨b, 2, none⟩ = some (.string o.s) ∧ b < W.heap.size :=
  ⟨by rw [cell_of_row _ _ _ _ _ _ h]; rfl, (Array.getElem?_eq_some_iff.1 h).1⟩
theorem rdVals_range (r : Rd) (f : List UInt8) (vs : List Int) : 0 ≤ (rdVals r f vs).2 ∧ (rdVals r f vs).2 ≤ 4 := by
  have hd : ∀ a b c d e, 0 ≤ (rdDepot r a b c d e).2 ∧ (rdDepot r a b c d e).2 ≤ 4 := by
    intro a b c d e; unfold rdDepot; split
    · simp
    · split <;> simp
  have hst : ∀ a b c d e, 0 ≤ (rdStop r a b c d e).2 ∧ (rdStop r a b c d e).2 ≤ 4 := by
    intro a b c d e; unfold rdStop; split
    · simp
    · split
      · simp
      · split <;> simp
  have hrd : ∀ a b c, 0 ≤ (rdRoad r a b c).2 ∧ (rdRoad r a b c).2 ≤ 4 := by
    intro a b c; unfold rdRoad; split
    · simp
    · split
      · simp
      · split <;> simp
  unfold rdVals
  split
  · split
    · exact hd _ _ _ _ _
    · simp
  · split
    · split
      · exact hst _ _ _ _ _
      · simp
    · split
      · split
        · exact hrd _ _ _
        · simp
      · simp
theorem rdGo_range (ls : List (List UInt8)) : ∀ (r : Rd) (i : Nat), 0 ≤ (rdGo r i ls).2.2 ∧ (rdGo r i ls).2.2 ≤ 4 := by
  induction ls with
  | nil => intro r i; simp [rdGo]
  | cons l t ih =>
    intro r i
    unfold rdGo
    split
    · exact ih _ _
    · unfold rdLine
      split
      · simp
      · split
        · exact rdVals_range _ _ _
        · simp
theorem parse_range (l : List UInt8) : -9223372036854775808 ≤ (parseS l).2.2 ∧ (parseS l).2.2 ≤ 9223372036854775807 := by
  have h := rdGo_range (splitB 10 l) Rd0 0
  unfold parseS
  split
  · simp
  · split
    · split <;> simp
    · show _ ≤ (rdGo Rd0 0 (splitB 10 l)).2.2 ∧ (rdGo Rd0 0 (splitB 10 l)).2.2 ≤ _; omega

set_option maxRecDepth 100000 in
set_option maxHeartbeats 1000000 in
theorem inst_parse (bb bd hb : Nat) (vi vr vs vd vn : Value) (I R S D N : List Value) (o : OpV) (w : World) (ho : o.k = 1) (hos : o.s.size ≤ maxLen) (h : HoldIs w bb bd hb vi vr vs vd vn I R S D N) (hS : S.length ≤ 1000000000000) (hD : D.length ≤ 1000000000000) (hbb : bb ≤ w.heap.size) (hbw : bd ≤ w.heap.size) :
    Calls Tryz.prog 13 #[.pointer (some ⟨hb, 0, none⟩), .agg o.vals] w fun e w' => ∃ vs' vd' s1 d1, e = .returned (.bool true) ∧ HoldIs w' bb w'.heap.size hb vi vr vs' vd' vn I R (S ++ [s1]) (D ++ [d1]) N ∧ Below bb w w' := by
  have HH := hid h
  have hbl : hb < w.heap.size := (Array.getElem?_eq_some_iff.1 h.box).1
  have HP : Hid (∀ W, Calls Tryz.prog 21 #[.string o.s] W (Parsed W (parseS o.s.data.toList))) := fun W => dparse_any o.s W hos
  have HQ : Hid (∀ W, Calls Tryz.prog 22 #[.string o.s] W (Parsed W (parseS o.s.data.toList))) := fun W => rparse_any o.s W hos
  have HSH := hid (parse_shape o.s.data.toList)
  have HFN := hid (parse_fine o.s.data.toList)
  have hxr := parse_range o.s.data.toList
  have HOB := hid (op_box o w)
  generalize parseS o.s.data.toList = x at *
  obtain ⟨r, nat, er⟩ := x
  unfold OpV.vals
  rw [ho]
  clear h
  go_enter Tryz.func13, Tryz.ntmps13
  go_wp2_with fail
  rw [← ho]
  refine (HP.out _).mono ?_
  rintro e1 w1 ⟨us, ur, rfl, hs1, hr1, hb1⟩
  obtain ⟨aus, cus, hv1, hl1⟩ := lies_own hs1 HSH.out.stops
  obtain ⟨aur, cur, hv2, hl2⟩ := lies_own hr1 HSH.out.roads
  subst hv1 hv2
  have hob1 := op_below HOB.out hb1
  obtain ⟨o2, hol⟩ := op_s hob1
  have HB1 : Hid (Below w.heap.size w w1) := (below1 w _).trans (hb1.mono (by simp))
  have HS1 := hid (own_base hs1 (show w.heap.size ≤ _ by simp))
  have HR1 := hid (own_base hr1 (show w.heap.size ≤ _ by simp))
  have HL1 := hid hl1
  have HL2 := hid hl2
  have HOB1 := hid hob1
  clear hs1 hr1 hb1 hl1 hl2 hob1 HP HOB
  unfold inst
  go_wp2_with fail
  refine (HQ.out _).mono ?_
  rintro e2 w2 ⟨zs, zr, rfl, hs2, hr2, hb2⟩
  obtain ⟨azs, czs, hv3, hl3⟩ := lies_own hs2 HSH.out.stops
  obtain ⟨azr, czr, hv4, hl4⟩ := lies_own hr2 HSH.out.roads
  subst hv3 hv4
  have hx2 : w2.heap[w1.heap.size]? = some (.cells #[.int .i64 r.vans, .int .i64 r.load, .int .i64 r.close, .int .i64 r.nodes, .int .i64 r.home, .slice aus r.stops.length cus, .slice aur r.roads.length cur] 36 (0, 0)) := by
    rw [hb2.block _ (by simp)]; exact heap_alloc_new w1 _
  have hb12 : Below w1.heap.size w1 w2 := (below1 w1 _).trans (hb2.mono (by simp))
  obtain ⟨q0, q1, q2, q3, q4, q5, q6, qf⟩ := seven hx2
  have hxl : w1.heap.size < w2.heap.size := (Array.getElem?_eq_some_iff.1 hx2).1
  have HX2 := hid hx2
  have HB12 := hid hb12
  have HL3 := hid hl3
  have HL4 := hid hl4
  clear hx2 hb12 hl3 hl4 hs2 hr2 hb2 HQ
  unfold inst
  go_wp2_with fail
  have hb2y : Below w2.heap.size w2 (w2.alloc (.cells #[.int .i64 r.vans, .int .i64 r.load, .int .i64 r.close, .int .i64 r.nodes, .int .i64 r.home, .slice azs r.stops.length czs, .slice azr r.roads.length czr] 36)) := below1 w2 _
  refine (sameI_any r.vans r.load r.close r.nodes r.home (cellF r.stops) (cellF r.roads) aus aur azs azr r.stops.length r.roads.length cus cur czs czr _ (by have := HFN.out.1; unfold maxLen; omega) (by have := HFN.out.2; unfold maxLen; omega) ((HL1.out.below HB12.out).below hb2y) ((HL2.out.below HB12.out).below hb2y) (HL3.out.below hb2y) (HL4.out.below hb2y)).mono ?_
  rintro e3 w3 ⟨rfl, hb3⟩
  have hb23 : Below w2.heap.size w2 w3 := hb2y.trans (hb3.mono (by simp))
  have hx3 : w3.heap[w1.heap.size]? = _ := (hb23.block _ hxl).trans HX2.out
  have hb13 : Below w1.heap.size w1 w3 := HB12.out.trans (hb23.mono HB12.out.size)
  have hb03 : Below w.heap.size w w3 := HB1.out.trans (hb13.mono HB1.out.size)
  obtain ⟨p0, p1, p2, p3, p4, p5, p6, pf⟩ := seven hx3
  have hxl3 : w1.heap.size < w3.heap.size := (Array.getElem?_eq_some_iff.1 hx3).1
  have hcon := instance_walk bb bd hb w.heap.size vi vr vs vd vn I R S D N r (.slice aus r.stops.length cus) (.slice aur r.roads.length cur) w3 (HH.out.below hb03 (Nat.le_refl bd)) hS hD hbw (by have := hb03.size; omega) (by have := hb03.size; omega) (own_below HS1.out hb13) (own_below HR1.out hb13)
  have HC := hid hcon
  have HB03 := hid hb03
  clear hcon hb03 hb13 hb23 hb3 hx3 hb2y HL1 HL2 HL3 HL4 HX2 HB12 q0 q1 q2 q3 q4 q5 q6 qf hxl
  unfold inst at HC
  go_wp2_with fail
  refine HC.out.mono ?_
  rintro e4 w4 ⟨vs', vd', s1, d1, rfl, hh4, hb4⟩
  have HH4 := hid hh4
  have HB4 : Hid (Below bb w w4) := (HB03.out.mono hbb).trans (hb4.mono (by omega))
  clear hh4 hb4 HC p0 p1 p2 p3 p4 p5 p6 pf
  go_wp2_with (go_at_call 19; refine (num_any _ _ hxr).mono ?_; rintro e5 w5 ⟨rfl, rfl⟩)
  go_ret
  exact ⟨_, _, _, _, ret_bool (by simp), HH4.out, HB4.out⟩
end Go.Proofs.YtebinaopncclgaaGreatDoor
