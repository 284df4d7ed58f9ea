/- Walks of the document's answer: the moves of a plan. -/
import Derived.Test.YtebinaopncclgaaGreatDoorIChp
import Derived.Test.YtebinaopncclgaaGreatDoorDJudge
namespace Go.Proofs.YtebinaopncclgaaGreatDoor
open Go.RowKit Go.IntWalk

theorem lens_pos {D : Nat → Nat → Int} {L : List (List Int)} (h : ∀ l ∈ L, 0 ≤ rtTo D l (l.length - 1)) : 0 ≤ lenTo D L := by
  unfold lenTo
  induction L with
  | nil => simp
  | cons l t ih =>
    simp only [List.map_cons, List.sum_cons]
    have h1 := h l (by simp)
    have h2 := ih (fun x hx => h x (by simp [hx]))
    omega
theorem acc_pos {r : Rd} {D : Nat → Nat → Int} {l : List UInt8} {c : Int} (hD : ∀ a b, a < r.stops.length + 1 → b < r.stops.length + 1 → -1 ≤ D a b ∧ D a b ≤ 40960000) (h : Acc r D l c) : 0 ≤ c := by
  have hf := acc_fine h
  have hp := (fine_size hf).2.1
  obtain ⟨S, h⟩ := h
  unfold judgeS at h
  rw [if_neg (by omega)] at h
  by_cases h2 : r.vans < ((routesS l).length : Int)
  · rw [if_pos h2] at h; cases h
  · rw [if_neg h2] at h
    by_cases h3 : (routesS l).all (loadOk r) = false
    · rw [if_pos h3] at h; cases h
    · rw [if_neg h3] at h
      by_cases h4 : (routesS l).all (wayOk D) = false
      · rw [if_pos h4] at h; cases h
      · rw [if_neg h4] at h
        have h5 : (routesS l).all (wayOk D) = true := by simpa using h4
        have h6 : 0 ≤ lenTo D (routesS l) := lens_pos fun x hx => by
          have h7 := (routes_shape hp x hx).sites
          exact (rtTo_nonneg hD h7.2.1 (List.all_eq_true.1 h5 x hx) _ (Nat.le_refl _)).1
        cases ht : timesS r D (routesS l) (List.replicate r.stops.length 0) with
        | none => rw [ht] at h; cases h
        | some S' => rw [ht] at h; cases h; exact h6
theorem acc_size {r : Rd} {D : Nat → Nat → Int} {s : ByteArray} {c : Int} (hn : r.stops.length ≤ 7) (h : Acc r D s.data.toList c) : s.size ≤ 14 := by
  have h1 := (fine_size (acc_fine h)).1
  have h2 : s.data.toList.length = s.size := by simp
  omega
/- no move is cheaper -/
def Least (r : Rd) (D : Nat → Nat → Int) (l : List UInt8) (c : Int) : Prop := ∀ q ∈ movesS withoutS l l.length, ∀ cq, Acc r D q cq → c ≤ cq
def ImpLeft (w : World) (r : Rd) (D : Nat → Nat → Int) (J : Int × Option (List Int) × Int) (e : Ending) (w' : World) : Prop :=
  (J.2.2 ≠ 0 → e = .returned (.tuple #[.string ⟨#[]⟩, .int .i64 0, .int .i64 J.2.2])) ∧ (J.2.2 = 0 → ∃ (op : ByteArray) (oc : Int), e = .returned (.tuple #[.string op, .int .i64 oc, .int .i64 0]) ∧ Acc r D op.data.toList oc ∧ oc ≤ J.1 ∧ Least r D op.data.toList oc) ∧ Below w.heap.size w w'
theorem best_next {r : Rd} {D : Nat → Nat → Int} {l bl : List UInt8} {c bc : Int} {qs : List (List UInt8)} (h : Best r D l c qs bl bc) (hlt : bc < c) : Acc r D bl bc := by
  rcases h.1 with ⟨_, e⟩ | ⟨e, _⟩
  · omega
  · exact e
theorem best_end {r : Rd} {D : Nat → Nat → Int} {l bl : List UInt8} {c bc : Int} (h : Best r D l c (movesS withoutS l l.length) bl bc) (hlt : ¬ bc < c) : Least r D l c := fun q hq cq ha => by
  have := h.2 q hq cq ha; omega

def costAt (w : World) (b : Nat) : Nat := match w.cell? ⟨b, 1, none⟩ with | some (.int _ c) => c.toNat | _ => 0
theorem cost_at {w : World} {b : Nat} {p : ByteArray} {c : Int} (h : w.heap[b]? = some (.cells (offer p c) 191 (0, 0))) : costAt w b = c.toNat := by unfold costAt; rw [(offer_at h).2.1]
set_option maxRecDepth 100000 in
set_option maxHeartbeats 4000000 in
theorem aimprove_any (p : Nat) (r : Rd) (D : Nat → Nat → Int) (s : ByteArray) (vs vf : Value) (w : World) (hs : s.size ≤ maxLen) (hok : RdOk r) (ha : AreaAt w p r D vs vf) (hD : ∀ a b, a < r.stops.length + 1 → b < r.stops.length + 1 → -1 ≤ D a b ∧ D a b ≤ 40960000) :
    Calls Tryz.prog 70 #[.pointer (some ⟨p, 0, none⟩), .string s] w (ImpLeft w r D (judgeS r D s.data.toList)) := by
  have hn := hok.nstops
  have HAJ := hid (ajudge_any p r D s vs vf w hs hok ha hD)
  have HCH : Hid (∀ (q : ByteArray) (c : Int) (W : World), Below w.heap.size w W → q.size ≤ 14 → Calls Tryz.prog 122 #[.pointer (some ⟨p, 0, none⟩), .agg (offer q c)] W fun e w' => ∃ (bp : ByteArray) (bc : Int), e = .returned (.agg (offer bp bc)) ∧ Best r D q.data.toList c (movesS withoutS q.data.toList q.data.toList.length) bp.data.toList bc ∧ Below W.heap.size W w') := fun q c W hW hq => by
    have h := cheapest_any p r D q c vs vf W (by omega) hok (ha.below hW) hD
    have hl : q.data.toList.length = q.size := by simp
    rw [hl]; exact h
  have HPS : Hid (∀ l c, Acc r D l c → 0 ≤ c) := fun l c h => acc_pos hD h
  have HSZ : Hid (∀ (q : ByteArray) c, Acc r D q.data.toList c → q.size ≤ 14) := fun q c h => acc_size hn h
  have HAC : Hid ((judgeS r D s.data.toList).2.2 = 0 → Acc r D s.data.toList (judgeS r D s.data.toList).1) := fun h => acc_iff.2 ⟨h, rfl⟩
  generalize judgeS r D s.data.toList = J at *
  obtain ⟨jc, jo, je⟩ := J
  dsimp only at HAC
  clear ha hok hD hs
  by_cases h0 : je = 0
  · subst h0
    have HA0 := hid (HAC.out rfl)
    have hs14 := HSZ.out s jc HA0.out
    unfold offer at HCH
    go_enter Tryz.func70, Tryz.ntmps70
    go_wp2_with fail
    refine HAJ.out.mono ?_
    rintro e1 w1 ⟨v1, rfl, hv0, hv1, hb1⟩
    have HB1 := hid hb1
    have hvs : ∃ ao n c, v1 = .slice ao n c := by
      cases jo with
      | none => exact ⟨none, 0, 0, hv0 rfl⟩
      | some S =>
        obtain ⟨h1, _, _⟩ := hv1 S rfl
        obtain ⟨ao, c, e, _⟩ := own_val h1
        exact ⟨ao, _, c, e⟩
    obtain ⟨a1, n1, c1, rfl⟩ := hvs
    clear hv0 hv1 hb1 HAJ HAC
    go_wp2_with fail
    refine (HCH.out s jc _ (HB1.out.alloc HB1.out.size _) hs14).mono ?_
    rintro e2 w2 ⟨xp, xc, rfl, hbe, hb2⟩
    have HBE := hid hbe
    have hn0 : w1.heap.size < w2.heap.size := by have := hb2.size; simp at this; omega
    have hw1 := HB1.out.size
    have HN0 : Hid (w2.heap[w1.heap.size]? = some (.cells (offer s jc) 191 (0, 0))) := by show _ = _; rw [hb2.block _ (by simp)]; exact heap_alloc_new w1 _
    have HB2 : Hid (Below w.heap.size w w2) := (HB1.out.alloc HB1.out.size _).trans (hb2.mono (by simp; omega))
    clear hbe hb2
    go_wp2_with fail
    go_loopw [] (fun wr => ∃ (np xp : ByteArray) (nc xc : Int), Hid (Acc r D np.data.toList nc) ∧ nc ≤ jc ∧ Hid (Best r D np.data.toList nc (movesS withoutS np.data.toList np.data.toList.length) xp.data.toList xc) ∧ Hid (wr.heap[w1.heap.size]? = some (.cells (offer np nc) 191 (0, 0))) ∧ Hid (wr.heap[w2.heap.size]? = some (.cells (offer xp xc) 191 (0, 0))) ∧ Hid (Below w.heap.size w wr)) (fun wr => costAt wr w1.heap.size)
    case atStart =>
      refine ⟨s, xp, jc, xc, HA0, Int.le_refl _, HBE, ?_, heap_alloc_new w2 _, HB2.out.alloc HB2.out.size _⟩
      show _ = _
      rw [Below.heap_alloc _ _ _ (by exact hn0)]; exact HN0.out
    case round =>
      clear HBE HN0 HB2
      obtain ⟨np, xp, nc, xc, HA, hnc, HBE, HNX, HXX, HB⟩ := hrel
      obtain ⟨x0, x1, xf, xl⟩ := offer_at HNX.out
      obtain ⟨y0, y1, yf, yl⟩ := offer_at HXX.out
      have xf0 := xf 0
      have xf1 := xf 1
      have yf0 := yf 0
      have yf1 := yf 1
      have HMS := hid (cost_at HNX.out)
      have hnp := HPS.out _ _ HA.out
      clear xf yf
      by_cases hlt : xc < nc
      · have HAX := hid (best_next HBE.out hlt)
        have hxp := HPS.out _ _ HAX.out
        have hxs := HSZ.out xp xc HAX.out
        have HP2 := hid (put2_heap HNX.out xp xc)
        have HK2 : Hid (((wr.setCell ⟨w1.heap.size, 0, none⟩ (.string xp)).setCell ⟨w1.heap.size, 1, none⟩ (.int .i64 xc)).heap[w2.heap.size]? = some (.cells (offer xp xc) 191 (0, 0))) := by
          show _ = _
          rw [Below.heap_setCell _ _ _ _ (by show w2.heap.size ≠ w1.heap.size; omega), Below.heap_setCell _ _ _ _ (by show w2.heap.size ≠ w1.heap.size; omega)]; exact HXX.out
        have HBP : Hid (Below w.heap.size w ((wr.setCell ⟨w1.heap.size, 0, none⟩ (.string xp)).setCell ⟨w1.heap.size, 1, none⟩ (.int .i64 xc))) := below_put2 HB.out (by omega) _ _
        have HCC := hid (HCH.out xp xc _ HBP.out hxs)
        go_wp2_with (first
          | (go_at_call 122; refine HCC.out.mono ?_; rintro e3 w3 ⟨zp, zc, rfl, hbe3, hb3⟩; have HBE3 := hid hbe3; have HK3 : Hid (w3.heap[w2.heap.size]? = some (.cells (offer xp xc) 191 (0, 0))) := (hb3.block _ (Array.getElem?_eq_some_iff.1 HK2.out).1).trans HK2.out; have HN3 : Hid (w3.heap[w1.heap.size]? = some (.cells (offer xp xc) 191 (0, 0))) := (hb3.block _ (Array.getElem?_eq_some_iff.1 HP2.out).1).trans HP2.out; have HB3 : Hid (Below w.heap.size w w3) := HBP.out.trans (hb3.mono HBP.out.size); clear hbe3 hb3; obtain ⟨z0, z1, zf, zl⟩ := offer_at HK3.out; have zf0 := zf 0; have zf1 := zf 1; clear zf)
          | go_in)
        have HM3 : Hid (((w3.setCell ⟨w2.heap.size, 0, none⟩ (.string zp)).setCell ⟨w2.heap.size, 1, none⟩ (.int .i64 zc)).heap[w1.heap.size]? = some (.cells (offer xp xc) 191 (0, 0))) := by
          show _ = _
          rw [Below.heap_setCell _ _ _ _ (by show w1.heap.size ≠ w2.heap.size; omega), Below.heap_setCell _ _ _ _ (by show w1.heap.size ≠ w2.heap.size; omega)]; exact HN3.out
        go_roundw
        case rel => exact ⟨xp, zp, xc, zc, HAX, by omega, HBE3, HM3, put2_heap HK3.out _ _, below_put2 HB3.out (by omega) _ _⟩
        case measure => rw [HMS.out, cost_at HM3.out]; omega
      · have HLE := hid (best_end HBE.out hlt)
        go_wp2_with fail
        go_region_held3 (fun w' => w'.cell? ⟨w1.heap.size, 0, none⟩ = some (.string np) ∧ w'.cell? ⟨w1.heap.size, 1, none⟩ = some (.int .i64 nc) ∧ w'.cell? ⟨w2.heap.size, 1, none⟩ = some (.int .i64 xc)) (go_keep) (fail)
        go_wp2_with go_in
        go_ret3
        exact ⟨fun h => absurd rfl h, fun _ => ⟨np, nc, rfl, HA.out, hnc, HLE.out⟩, HB.out.drew⟩
  · have hne : (je != 0) = true := by simpa using h0
    have HNE := hid h0
    clear HAC h0 HCH HPS HSZ
    go_enter Tryz.func70, Tryz.ntmps70
    go_wp2_with fail
    refine HAJ.out.mono ?_
    rintro e1 w1 ⟨v1, rfl, _, _, hb1⟩
    go_wp2_with go_in
    go_ret3
    exact ⟨fun _ => rfl, fun h => absurd h HNE.out, by first | exact hb1 | exact hb1.alloc hb1.size _⟩
end Go.Proofs.YtebinaopncclgaaGreatDoor
namespace Go.Proofs.YtebinaopncclgaaGreatDoor
open Go.RowKit Go.IntWalk

set_option maxRecDepth 100000 in
set_option maxHeartbeats 2000000 in
theorem dimprove_any (s t : ByteArray) (w : World) (hs : s.size ≤ maxLen) (ht : t.size ≤ maxLen) : Calls Tryz.prog 33 #[.string s, .string t] w (ImpLeft w (parseS s.data.toList).1 (siteD (parseS s.data.toList).1) (judgedS (parseS s.data.toList) t.data.toList)) := by
  have HCP : Hid (∀ W, Calls Tryz.prog 69 #[.string s] W (OpenLeft W (parseS s.data.toList))) := fun W => open_any s W hs
  have hok : (parseS s.data.toList).2.2 = 0 → RdOk (parseS s.data.toList).1 := parse_rdok
  generalize parseS s.data.toList = x at *
  obtain ⟨r, nat, er⟩ := x
  by_cases h0 : er = 0
  · subst h0
    have HOK := hid (hok rfl)
    have hns := HOK.out.nstops
    have HAJ : Hid (∀ (W : World) (p : Nat) (vs vf : Value), AreaAt W p r (siteD r) vs vf → Calls Tryz.prog 70 #[.pointer (some ⟨p, 0, none⟩), .string t] W (ImpLeft W r (siteD r) (judgedS (r, nat, 0) t.data.toList))) := fun W p vs vf ha => by
      have h := aimprove_any p r (siteD r) t vs vf W ht HOK.out ha (site_range HOK.out)
      exact h
    generalize judgedS (r, nat, 0) t.data.toList = ans at *
    clear hok hs
    go_enter Tryz.func33, Tryz.ntmps33
    go_wp2_with fail
    refine (HCP.out _).mono ?_
    rintro e1 w1 ⟨vs, vr, vw, rfl, hos, ⟨ar, nr, cr, rfl⟩, _, hgo, hb1⟩
    dsimp only at hgo hos
    have hst := StR.own hos HOK.out.shape.stops
    have hsq : SqR w1 vw (r.stops.length + 1) (siteD r) := (hgo rfl).sq (by omega)
    obtain ⟨aos, caps, hv1, _, _⟩ := own_val hos
    subst hv1
    obtain ⟨aw, cw, hvw, _⟩ := hsq
    subst hvw
    have hsq : SqR w1 (.slice aw (r.stops.length + 1) cw) (r.stops.length + 1) (siteD r) := (hgo rfl).sq (by omega)
    obtain ⟨W, hW⟩ : ∃ W, W = w1.alloc (.cells (ground r (.slice aos r.stops.length caps) (.slice ar nr cr) (.slice aw (r.stops.length + 1) cw)) 119) := ⟨_, rfl⟩
    obtain ⟨hA, hbW⟩ := area_box hW hst hsq
    have HC := hid (HAJ.out W _ _ _ hA)
    have HB1 : Hid (Below w.heap.size w W) := hb1.trans (hbW.mono hb1.size)
    have HWQ := hid hW
    clear hos hgo hst hsq hA hbW hb1 hW HAJ HCP
    unfold ground at *
    obtain ⟨jc, jo, je⟩ := ans
    by_cases hje : je = 0
    · subst hje
      go_wp2_with (go_at_call 70; rw [← HWQ.out]; refine HC.out.mono ?_; rintro e2 w2 ⟨_, j2, j3⟩; obtain ⟨op, oc, rfl, j4, j5, j6⟩ := j2 rfl)
      go_ret3
      exact ⟨fun h => absurd rfl h, fun _ => ⟨op, oc, rfl, j4, j5, j6⟩, HB1.out.trans (j3.mono HB1.out.size)⟩
    · have HJE := hid hje
      go_wp2_with (go_at_call 70; rw [← HWQ.out]; refine HC.out.mono ?_; rintro e2 w2 ⟨j1, _, j3⟩; have j1 := j1 HJE.out; subst j1)
      go_ret3
      exact ⟨fun _ => rfl, fun h => absurd h HJE.out, HB1.out.trans (j3.mono HB1.out.size)⟩
  · have hne : (er != 0) = true := by simp [h0]
    have HA : Hid (judgedS (r, nat, er) t.data.toList = (0, none, er)) := by show _ = _; unfold judgedS; rw [if_pos h0]
    have HNE := hid h0
    generalize judgedS (r, nat, er) t.data.toList = ans at *
    clear hok hs h0
    go_enter Tryz.func33, Tryz.ntmps33
    go_wp2_with fail
    refine (HCP.out _).mono ?_
    rintro e1 w1 ⟨vs, vr, vw, rfl, hos, ⟨ar, nr, cr, rfl⟩, hz, _, hb1⟩
    obtain ⟨aos, caps, hv1, _, _⟩ := own_val hos
    subst hv1
    have hz' := hz (by simpa using hne)
    subst hz'
    have HB1 := hid hb1
    clear hos hz hb1 HCP
    unfold ground
    go_wp2_with fail
    go_ret3
    rw [HA.out]
    exact ⟨fun _ => rfl, fun h => absurd h HNE.out, by first | exact HB1.out | exact HB1.out.alloc HB1.out.size _⟩

theorem bsize (x : ByteArray) : x.size = x.data.toList.length := by simp
theorem td_len (o q : List UInt8) : (tdStep o q).length ≤ o.length + 1 + q.length := by
  unfold tdStep
  split <;> simp <;> omega
theorem tidy_len (ps : List (List UInt8)) (m : Nat) : (∀ p ∈ ps, p.length ≤ m) → (tidyS ps).length ≤ ps.length * (m + 1) := by
  refine psnoc_ind (P := fun ps => (∀ p ∈ ps, p.length ≤ m) → (tidyS ps).length ≤ ps.length * (m + 1)) (fun _ => by simp [tidyS]) ?_ ps
  intro ps p ih h
  have h1 := ih (fun q hq => h q (by simp [hq]))
  have h2 := td_len (tidyS ps) p
  have h3 := h p (by simp)
  rw [tidy_snoc, List.length_append, List.length_singleton, Nat.succ_mul]
  omega

set_option maxRecDepth 100000 in
set_option maxHeartbeats 2000000 in
theorem tidy_any (s : ByteArray) (w : World) (hs : s.size ≤ 1000) :
    Calls Tryz.prog 123 #[.string s] w fun e w' => e = .returned (.string ⟨(tidyS (splitB 47 s.data.toList)).toArray⟩) ∧ Below w.heap.size w w' := by
  have HC := hid (rsplit_any 47 s w (by omega))
  have hcnt := split_count 47 s.data.toList
  have hl1 : 1 ≤ (splitB 47 s.data.toList).length := by unfold splitB; simp
  have HLN := hid (splitB_len 47 s.data.toList)
  have hln : s.data.toList.length = s.size := by simp
  generalize splitB 47 s.data.toList = ls at *
  have hl2 : ls.length ≤ 1001 := by omega
  have HLE : Hid (∀ f ∈ ls, f.length ≤ 1000) := fun f hf => by have := HLN.out f hf; omega
  clear hcnt hln HLN
  go_enter Tryz.func123, Tryz.ntmps123
  go_wp2_with fail
  refine HC.out.mono ?_
  rintro e1 w1 ⟨v1, rfl, hown1, hb1⟩
  obtain ⟨g, cap, cur, rfl, _, hg, hcap⟩ := own_shape hown1 (by omega)
  have hgl : g < w1.heap.size := (Array.getElem?_eq_some_iff.1 hg).1
  have HO := hid hown1
  have HB1 := hid hb1
  clear HC hown1 hg hb1
  go_wp2_with fail
  go_loopw [4, 5] (fun ov i wr => ∃ (k : Nat) (o : ByteArray), k ≤ ls.length ∧ i = .int .i64 k ∧ ov = .string o ∧ o.size ≤ 2000000 ∧ Hid (o.data.toList = tidyS (ls.take k)) ∧ Hid (Below w1.heap.size w1 wr)) (fun _ i _ => ls.length - (intOf i).toNat)
  case atStart => exact ⟨0, ⟨#[]⟩, Nat.zero_le _, rfl, rfl, by show 0 ≤ _; omega, rfl, Below.refl _ _⟩
  case round =>
    obtain ⟨k, o, hk, rfl, rfl, hos, HT, HB⟩ := hrel
    by_cases hlt : k < ls.length
    · obtain ⟨p, hp⟩ : ∃ p : ByteArray, p = ⟨(ls[k]).toArray⟩ := ⟨_, rfl⟩
      have hcell : wr.cell? ⟨g, k, none⟩ = some (.string p) := by
        rw [HB.out.cell (by exact hgl), HO.out.cellAt k (by omega), hp]; simp [strs, hlt]
      have hgw : g < wr.heap.size := Nat.lt_of_lt_of_le hgl HB.out.size
      have hpl : p.data.toList = ls[k] := by rw [hp]
      have HN : Hid (tidyS (ls.take (k + 1)) = tdStep o.data.toList p.data.toList) := by show _ = _; rw [List.take_succ_eq_append_getElem hlt, tidy_snoc, HT.out, hpl]
      have HNL : Hid ((tidyS (ls.take (k + 1))).length ≤ 1500000) := by
        have h1 := tidy_len (ls.take (k + 1)) 1000 (fun q hq => HLE.out q (List.mem_of_mem_take hq))
        have h2 : (ls.take (k + 1)).length ≤ 1001 := by rw [List.length_take]; omega
        have h3 : (ls.take (k + 1)).length * 1001 ≤ 1001 * 1001 := Nat.mul_le_mul_right _ h2
        show _ ≤ _
        omega
      have hps : p.size ≤ 1000 := by
        have h1 := HLE.out _ (List.getElem_mem hlt)
        have h2 : p.size = p.data.toList.length := by simp
        rw [h2, hpl]; exact h1
      have HPV : Hid (p.toList.isEmpty = p.data.toList.isEmpty) := is_void p
      have HOV : Hid (o.toList.isEmpty = o.data.toList.isEmpty) := is_void o
      clear hp hpl
      by_cases hpe : p.data.toList = []
      · have v1 : p.toList.isEmpty = true := by rw [HPV.out, hpe]; rfl
        have HX : Hid ((o ++ p).data.toList = tidyS (ls.take (k + 1))) := by show _ = _; rw [HN.out, app_list, hpe]; simp [tdStep]
        have hsz : (o ++ p).size ≤ 2000000 := by
          have h2 : (o ++ p).size = (o ++ p).data.toList.length := by simp
          have h3 := HNL.out
          rw [h2, HX.out]; omega
        clear hpe
        go_wp2_with go_in
        go_roundw
        case rel => exact ⟨k + 1, o ++ p, by omega, by go_num, rfl, hsz, HX, by first | exact HB.out | exact HB.out.drew⟩
        case measure => simp [intOf]; omega
      · have v1 : p.toList.isEmpty = false := by rw [HPV.out]; simpa using hpe
        by_cases hoe : o.data.toList = []
        · have v2 : o.toList.isEmpty = true := by rw [HOV.out, hoe]; rfl
          have HX : Hid ((o ++ p).data.toList = tidyS (ls.take (k + 1))) := by show _ = _; rw [HN.out, app_list, hoe]; simp [tdStep]
          have hsz : (o ++ p).size ≤ 2000000 := by
            have h2 : (o ++ p).size = (o ++ p).data.toList.length := by simp
            have h3 := HNL.out
            rw [h2, HX.out]; omega
          clear hpe hoe
          go_wp2_with go_in
          go_roundw
          case rel => exact ⟨k + 1, o ++ p, by omega, by go_num, rfl, hsz, HX, by first | exact HB.out | exact HB.out.drew⟩
          case measure => simp [intOf]; omega
        · have v2 : o.toList.isEmpty = false := by rw [HOV.out]; simpa using hoe
          have HX : Hid ((o ++ ⟨#[47]⟩ ++ p).data.toList = tidyS (ls.take (k + 1))) := by show _ = _; rw [HN.out, app_list, app_list]; unfold tdStep; rw [if_pos ⟨hpe, hoe⟩]
          have hsz : (o ++ ⟨#[47]⟩ ++ p).size ≤ 2000000 := by
            have h2 := bsize (o ++ ⟨#[47]⟩ ++ p)
            have h3 := HNL.out
            rw [h2, HX.out]; omega
          clear hpe hoe
          go_wp2_with go_in
          go_roundw
          case rel => exact ⟨k + 1, o ++ ⟨#[47]⟩ ++ p, by omega, by go_num, rfl, hsz, HX, by first | exact HB.out | exact HB.out.drew⟩
          case measure => simp [intOf]; omega
    · have HF : Hid (o.data.toList = tidyS ls) := by have h := HT.out; rw [List.take_of_length_le (by omega)] at h; exact h
      go_wp2_with go_in
      go_ret
      refine ⟨congrArg Ending.returned (str_eq HF.out), HB1.out.trans (HB.out.mono HB1.out.size)⟩
end Go.Proofs.YtebinaopncclgaaGreatDoor
namespace Go.Proofs.YtebinaopncclgaaGreatDoor
open Go.RowKit Go.IntWalk

def tidyW (A B : List UInt8) : List UInt8 := tidyS (splitB 47 (A ++ B))
theorem tidy_sum (ps : List (List UInt8)) : (tidyS ps).length ≤ (ps.map List.length).sum + (ps.length - 1) := by
  refine psnoc_ind (P := fun ps => (tidyS ps).length ≤ (ps.map List.length).sum + (ps.length - 1)) (by simp [tidyS]) ?_ ps
  intro ps p ih
  rw [tidy_snoc]
  unfold tdStep
  cases ps with
  | nil => simp [tidyS]
  | cons a t =>
    split
    · simp at ih ⊢; omega
    · simp at ih ⊢; omega
theorem spl_len (s : List UInt8) : ((spl 47 s).1.map List.length).sum + (spl 47 s).1.length + (spl 47 s).2.length = s.length := by
  refine snoc_ind (P := fun s => ((spl 47 s).1.map List.length).sum + (spl 47 s).1.length + (spl 47 s).2.length = s.length) rfl ?_ s
  intro s x ih
  rw [spl_snoc]
  unfold stepL
  by_cases hx : x = 47
  · rw [if_pos hx]; simp; omega
  · rw [if_neg hx]; simp; omega
theorem tidy_le (s : List UInt8) : (tidyS (splitB 47 s)).length ≤ s.length := by
  have h1 := tidy_sum (splitB 47 s)
  have h2 := spl_len s
  unfold splitB at h1 ⊢
  simp at h1
  omega
theorem tidyW_len (A B : List UInt8) : (tidyW A B).length ≤ A.length + B.length := by
  have := tidy_le (A ++ B)
  rw [List.length_append] at this
  exact this

set_option maxRecDepth 100000 in
set_option maxHeartbeats 4000000 in
theorem moved_any (s : ByteArray) (w : World) (hs : s.size ≤ 100) :
    Calls Tryz.prog 71 #[.string s] w fun e w' => ∃ v, e = .returned v ∧ w'.ownsRow w.heap.size 9 1 v (movesS tidyW s.data.toList s.size).length (strs (movesS tidyW s.data.toList s.size)) ∧ Below w.heap.size w w' := by
  obtain ⟨i0, hi, hz0, hz1, hz2⟩ := info_parts Tryz.infoStr
  have HML := hid (moves_len tidyW tidyW_len s.data.toList)
  have hlen : s.data.toList.length = s.size := by simp
  have HLN := hid hlen
  have HWI : Hid (∀ (k : Nat) (W : World), k < s.size → Calls Tryz.prog 123 #[.string (s.extract 0 k ++ s.extract (k + 1) s.size)] W fun e w' => e = .returned (.string ⟨(tidyW (s.data.toList.take k) (s.data.toList.drop (k + 1))).toArray⟩) ∧ Below W.heap.size W w') := fun k W hk => by
    have h := tidy_any (s.extract 0 k ++ s.extract (k + 1) s.size) W (by rw [bsize, sh1]; simp; omega)
    rw [sh1] at h
    exact h
  clear hlen
  go_enter Tryz.func71, Tryz.ntmps71
  go_wp2_with fail
  go_loopw [3, 4] (fun lv i wr => ∃ (k : Nat) (ls : List (List UInt8)), k ≤ s.size ∧ i = .int .i64 k ∧ ls.length ≤ 20000 ∧ Hid (ls = movesS tidyW s.data.toList k) ∧ Hid (wr.ownsRow w.heap.size 9 1 lv ls.length (strs ls)) ∧ Hid (Below w.heap.size w wr)) (fun _ i _ => s.size - (intOf i).toNat)
  case atStart => exact ⟨0, [], Nat.zero_le _, rfl, by simp, rfl, World.ownsRow_nil _ _ _ _, Below.refl _ _⟩
  case round =>
    obtain ⟨k, ls, hk, rfl, hll, HLS, HO, HB⟩ := hrel
    have hsz := HB.out.size
    have HLB : Hid (ls.length ≤ k * (s.size + 2)) := by
      have h := HML.out k (by rw [HLN.out]; exact hk)
      rw [HLN.out] at h
      rw [HLS.out]; exact h
    by_cases hlt : k < s.size
    · have hb : s[k].toNat < 256 := s[k].toNat_lt
      have hg : s.data.toList.getD k 0 = s[k] := by rw [List.getD_eq_getElem?_getD, List.getElem?_eq_getElem (by rw [HLN.out]; exact hlt)]; rfl
      by_cases hc : s[k].toNat = 47
      · have hc8 : s[k] = 47 := UInt8.toNat_inj.1 (by rw [hc]; rfl)
        have e1 : ((s[k].toNat : Int) == 47) = true := by simp [hc]
        have HX : Hid (ls = movesS tidyW s.data.toList (k + 1)) := by show _ = _; rw [moves_succ, if_pos (by rw [hg]; exact hc8), List.append_nil]; exact HLS.out
        clear hc8 hc hg
        go_wp2_with go_in
        go_roundw
        case rel => exact ⟨k + 1, ls, by omega, by go_num, hll, HX, HO, HB⟩
        case measure => simp [intOf]; omega
      · have hc8 : s[k] ≠ 47 := fun e => hc (by rw [e]; rfl)
        have e1 : ((s[k].toNat : Int) == 47) = false := by simp; omega
        have HX : Hid (movesS tidyW s.data.toList (k + 1) = ls ++ putS (tidyW (s.data.toList.take k) (s.data.toList.drop (k + 1))) s[k]) := by show _ = _; rw [moves_succ, if_neg (by rw [hg]; exact hc8), HLS.out, hg]
        have HC : Hid (∀ W, Calls Tryz.prog 123 #[.string (s.extract 0 k ++ s.extract (k + 1) s.size)] W fun e w' => e = .returned (.string ⟨(tidyW (s.data.toList.take k) (s.data.toList.drop (k + 1))).toArray⟩) ∧ Below W.heap.size W w') := fun W => HWI.out k W hlt
        have HRL : Hid ((tidyW (s.data.toList.take k) (s.data.toList.drop (k + 1))).length ≤ 100) := by
          have h1 := tidyW_len (s.data.toList.take k) (s.data.toList.drop (k + 1))
          have h2 : (s.data.toList.take k).length ≤ k := List.length_take_le _ _
          have h3 : (s.data.toList.drop (k + 1)).length = s.data.toList.length - (k + 1) := List.length_drop
          have h4 := HLN.out
          show _ ≤ _
          omega
        generalize hrr : tidyW (s.data.toList.take k) (s.data.toList.drop (k + 1)) = rest at *
        obtain ⟨p, hp⟩ : ∃ p : ByteArray, p = ⟨rest.toArray⟩ := ⟨_, rfl⟩
        have hpl : p.data.toList = rest := by rw [hp]
        have hps : p.size ≤ 100 := by
          have h2 : p.size = p.data.toList.length := by simp
          have := HRL.out
          rw [h2, hpl]; exact this
        rw [← hp] at HC
        rw [← hpl] at HX
        have HPV : Hid (p.toList.isEmpty = p.data.toList.isEmpty) := is_void p
        have HST : Hid ((s.extract k (k + 1)).data.toList = [s[k]]) := by
          show _ = _
          rw [ext_list, show k + 1 - k = 1 by omega]
          have h4 := HLN.out
          rw [List.drop_eq_getElem_cons (by omega)]
          rfl
        clear hc8 hc hg hrr hp hpl HRL
        have hq0 : ¬ (9223372036854775807 < k + (s.size - (k + 1))) := by omega
        have ik : (0 : Int) ≤ (k : Int) := by omega
        have jk : (k : Int) ≤ (s.size : Int) := by omega
        have ik1 : (0 : Int) ≤ (k : Int) + 1 := by omega
        have jk1 : (k : Int) + 1 ≤ (s.size : Int) := by omega
        have htk : ((k : Int) + 1).toNat = k + 1 := by omega
        have hwk : IntKind.i64.wrap ((k : Int) + 1) = (k : Int) + 1 := i64_fits _ (by omega)
        obtain ⟨al, capl, rfl, _, _⟩ := own_val HO.out
        go_wp2_with fail
        go_region_held3 (fun w' => True) (exact trivial)
          (first
            | (go_at_call 123; refine (HC.out _).mono ?_; rintro e1 w1 ⟨rfl, hb1⟩; have hbd : Below wr.heap.size wr w1 := ⟨hb1.os, hb1.tape, hb1.output, hb1.size, hb1.block⟩; have HB1 : Hid (Below w.heap.size w w1) := HB.out.trans (hbd.mono HB.out.size); have HO1 := hid (own_below HO.out hbd); clear hb1 hbd HO HB))
        by_cases hpz0 : p.size = 0
        · have hnil0 : p.data.toList = [] := List.length_eq_zero_iff.1 (by rw [← bsize]; exact hpz0)
          have hv0 : p.toList.isEmpty = true := by rw [HPV.out, hnil0]; rfl
          have HF : Hid (ls ++ [[s[k]]] = movesS tidyW s.data.toList (k + 1)) := by show _ = _; rw [HX.out, hnil0]; rfl
          have HV : Hid (Value.string (s.extract k (k + 1)) = .string ⟨([s[k]] : List UInt8).toArray⟩) := str_eq HST.out
          have hsz1 := HB1.out.size
          have hll2 : ls.length ≤ 10200 := by
            have h1 := HLB.out
            have h2 : k * (s.size + 2) ≤ 100 * 102 := Nat.mul_le_mul (by omega) (by omega)
            omega
          clear hnil0 hpz0 HLS
          go_wp2_with (first
            | (at_builtin; refine wpList_append_own _ rfl _ _ 109 rfl w.heap.size 9 i0 (.string ByteArray.empty) 1 16 Tryz.underlying109 hi hz0 hz1 hz2 rfl (by decide) _ _ _ rfl (HO1.out.alloc _) ⟨w1.heap.size, 0, none⟩ 1 1 [.string (s.extract k (k + 1))] rfl rfl ?c1 ?c2 ?c3 ?c4 ?c5 ?_)
            | go_in)
          case c1 => exact cell_one_new _ _ _
          case c2 => intro u hu; simp at hu; subst hu; rfl
          case c3 => unfold maxLen; omega
          case c4 => omega
          case c5 => simp; omega
          intro v1 w2 hown1 hgr1 _
          rw [HV.out] at hown1
          have hgg1 : (w1.alloc (.cells #[.string (s.extract k (k + 1))] 9)).grownBy w2 (Value.slice al ls.length capl).ownBlock := hgr1
          rw [HV.out] at hgg1
          have R := own_strs hsz1 HO1.out HB1.out hown1 hgg1
          have HO2 := hid R.1
          have HB2 := hid R.2
          rw [HF.out] at HO2
          have hln : (movesS tidyW s.data.toList (k + 1)).length ≤ 20000 := by
            have h := congrArg List.length HF.out
            rw [List.length_append] at h
            have h2 : ls.length + 1 = (movesS tidyW s.data.toList (k + 1)).length := h
            omega
          clear hown1 hgr1 hgg1 R HO1 HB1 HF
          generalize hmm : movesS tidyW s.data.toList (k + 1) = ms2 at *
          have HM2 := hid hmm
          clear hmm
          go_wp2_with go_in
          go_roundw
          case rel => exact ⟨k + 1, ms2, by omega, by go_num, hln, HM2.out.symm, HO2, HB2⟩
          case measure => simp [intOf]; omega
        · have hne0 : p.data.toList ≠ [] := fun e => hpz0 (by
            have h2 := bsize p
            rw [e] at h2
            exact h2)
          have hv0 : p.toList.isEmpty = false := by rw [HPV.out]; simpa using hne0
          have HNE0 := hid hne0
          clear hne0 hpz0
          clear HLS
          have hll2 : ls.length ≤ 10200 := by
            have h1 := HLB.out
            have h2 : k * (s.size + 2) ≤ 100 * 102 := Nat.mul_le_mul (by omega) (by omega)
            omega
          go_wp2_with go_in
          go_loopw [3, 7] (fun lv qv wr => ∃ (q : Nat) (ms : List (List UInt8)), q ≤ p.size + 1 ∧ qv = .int .i64 q ∧ ms.length ≤ 10200 + q ∧ Hid (ms = ls ++ putTo p.data.toList s[k] q) ∧ Hid (wr.ownsRow w.heap.size 9 1 lv ms.length (strs ms)) ∧ Hid (Below w.heap.size w wr)) (fun _ qv _ => p.size + 1 - (intOf qv).toNat)
          case atStart => exact ⟨0, ls, Nat.zero_le _, rfl, by omega, by show _ = _; simp [putTo], HO1, HB1⟩
          case round =>
            clear HO1 HB1
            obtain ⟨q, ms, hq, rfl, hml, HMS, HO, HB⟩ := hrel
            have hsz2 := HB.out.size
            by_cases hql : q ≤ p.size
            · have HN : Hid (ms ++ [p.data.toList.take q ++ [s[k]] ++ p.data.toList.drop q] = ls ++ putTo p.data.toList s[k] (q + 1)) := by show _ = _; rw [putTo_succ, HMS.out, List.append_assoc]
              have HV : Hid (Value.string (p.extract 0 q ++ s.extract k (k + 1) ++ p.extract q p.size) = .string ⟨(p.data.toList.take q ++ [s[k]] ++ p.data.toList.drop q).toArray⟩) := by
                refine str_eq ?_
                rw [app_list, app_list, HST.out, ext_list, ext_list, List.drop_zero, Nat.sub_zero, List.take_of_length_le (l := p.data.toList.drop q) (by simp)]
              obtain ⟨al, capl, rfl, _, _⟩ := own_val HO.out
              have hq1 : ¬ (9223372036854775807 < q + (min (k + 1) s.size - k)) := by omega
              have hq2 : ¬ (9223372036854775807 < q + (min (k + 1) s.size - k) + (p.size - q)) := by omega
              go_wp2_with fail
              go_region_law (refine step_append_own rfl (.tmp 44) (.tmp 54) 109 rfl w.heap.size 9 i0 (.string ByteArray.empty) 1 16 Tryz.underlying109 hi hz0 hz1 hz2 rfl (by decide) (.slice al ms.length capl) ms.length (strs ms) (by simp [Act.eval]) (by exact own_new rfl HO.out rfl) ⟨wr.heap.size, 0, none⟩ 1 1 [.string (p.extract 0 q ++ s.extract k (k + 1) ++ p.extract q p.size)] (by simp [Act.eval]) rfl (by exact news_at rfl rfl) (by intro u hu; simp at hu; subst hu; rfl) (by unfold maxLen; omega) (by omega) (by simp; omega) ?_; intro v1 w2 hown1 hgr1)
              rw [HV.out] at hown1
              have hgg1 : (wr.drew.alloc (.cells #[.string (p.extract 0 q ++ s.extract k (k + 1) ++ p.extract q p.size)] 9)).grownBy w2 (Value.slice al ms.length capl).ownBlock := hgr1
              rw [HV.out] at hgg1
              have R := own_strs (wr := wr.drew) hsz2 (own_heap HO.out rfl) HB.out.drew hown1 hgg1
              have HO2 := hid R.1
              have HB2 := hid R.2
              rw [HN.out] at HO2
              clear hown1 hgr1 hgg1 R HO HB
              have hln : (ls ++ putTo p.data.toList s[k] (q + 1)).length ≤ 10200 + (q + 1) := by rw [List.length_append, putTo_len]; omega
              generalize hmm : ls ++ putTo p.data.toList s[k] (q + 1) = ms2 at *
              have HM2 := hid hmm
              clear hmm HN
              go_wp2_with go_in
              go_roundw
              case rel => exact ⟨q + 1, ms2, by omega, by go_num, hln, HM2.out.symm, HO2, HB2⟩
              case measure => simp [intOf]; omega
            · have hqe : q = p.size + 1 := by omega
              have HPL : Hid (ms = ls ++ putTo p.data.toList s[k] (p.data.toList.length + 1)) := by
                show _ = _
                rw [HMS.out, hqe]
                have h2 : p.data.toList.length = p.size := by simp
                rw [h2]
              clear HMS
              have HF : Hid (ms ++ [p.data.toList ++ [47] ++ [s[k]]] = movesS tidyW s.data.toList (k + 1)) := by show _ = _; rw [HX.out, putS_to, if_neg HNE0.out, HPL.out, List.append_assoc]
              have HV : Hid (Value.string (p ++ ⟨#[47]⟩ ++ s.extract k (k + 1)) = .string ⟨(p.data.toList ++ [47] ++ [s[k]]).toArray⟩) := by
                refine str_eq ?_
                rw [app_list, app_list, HST.out]
              obtain ⟨al, capl, rfl, _, _⟩ := own_val HO.out
              clear hqe
              have hmb : ms.length ≤ 10301 := by omega
              go_wp2_with (first
                | (at_builtin; refine wpList_append_own _ rfl _ _ 109 rfl w.heap.size 9 i0 (.string ByteArray.empty) 1 16 Tryz.underlying109 hi hz0 hz1 hz2 rfl (by decide) _ _ _ rfl (HO.out.alloc _) ⟨wr.heap.size, 0, none⟩ 1 1 [.string (p ++ ⟨#[47]⟩ ++ s.extract k (k + 1))] rfl rfl ?c1 ?c2 ?c3 ?c4 ?c5 ?_)
                | go_in)
              case c1 => exact cell_one_new _ _ _
              case c2 => intro u hu; simp at hu; subst hu; rfl
              case c3 => unfold maxLen; omega
              case c4 => omega
              case c5 => simp; omega
              intro v1 w2 hown1 hgr1 _
              rw [HV.out] at hown1
              have hgg1 : (wr.alloc (.cells #[.string (p ++ ⟨#[47]⟩ ++ s.extract k (k + 1))] 9)).grownBy w2 (Value.slice al ms.length capl).ownBlock := hgr1
              rw [HV.out] at hgg1
              have R := own_strs hsz2 HO.out HB.out hown1 hgg1
              have HO2 := hid R.1
              have HB2 := hid R.2
              rw [HF.out] at HO2
              have hln : (movesS tidyW s.data.toList (k + 1)).length ≤ 20000 := by
                have h := congrArg List.length HF.out
                rw [List.length_append] at h
                have h2 : ms.length + 1 = (movesS tidyW s.data.toList (k + 1)).length := h
                omega
              clear hown1 hgr1 hgg1 R HO HB HF
              generalize hmm : movesS tidyW s.data.toList (k + 1) = ms2 at *
              have HM2 := hid hmm
              clear hmm
              go_wp2_with go_in
              go_roundw
              case rel => exact ⟨k + 1, ms2, by omega, by go_num, hln, HM2.out.symm, HO2, HB2⟩
              case measure => simp [intOf]; omega
    · have hke : k = s.size := by omega
      have HF : Hid (ls = movesS tidyW s.data.toList s.size) := by show _ = _; rw [HLS.out, hke]
      clear hke
      go_wp2_with go_in
      go_ret
      refine ⟨_, rfl, ?_, HB.out⟩
      rw [← HF.out]; exact HO.out
end Go.Proofs.YtebinaopncclgaaGreatDoor
