/- Walks: the ways of any text; squares that are the same. -/
import Derived.Test.YtebinaopncclgaaGreatDoorRefX
namespace Go.Proofs.YtebinaopncclgaaGreatDoor
open Go.RowKit Go.IntWalk

set_option maxHeartbeats 2000000 in
theorem rspot_any (B i : Nat) (r : Rd) (vs vr : Value) (w : World) (hn : RdNice r) (hi : i < r.stops.length + 1) (hs : w.ownsRow B 50 5 vs r.stops.length (ints r.stops.flatten)) :
    Calls Tryz.prog 121 #[inst r vs vr, .int .i64 i] w fun e w' => e = .returned (.int .i64 ((sites r).getD i 0)) ∧ Below w.heap.size w w' := by
  have hns := hn.nstops
  obtain ⟨aos, caps, rfl, has, hsn⟩ := own_val hs
  unfold inst
  cases i with
  | zero =>
    clear hs has hsn
    go_enter Tryz.func121, Tryz.ntmps121
    go_wp2
    go_ret
    exact ⟨ret_int (by simp [sites]), below1 _ _⟩
  | succ k =>
    obtain ⟨g, rfl, hgl⟩ := some_of has hsn (by omega)
    have hlt : k < r.stops.length := by omega
    obtain ⟨a, b, c, d, e, hab⟩ := five (hn.stops _ (List.getElem_mem hlt)).1
    have x0 : w.cell? ⟨g, k * 5, none⟩ = some (.int .i64 a) := by
      have h1 := hs.cellAt (k * 5 + 0) (by omega)
      rw [flat_ints (fun s hs => (hn.stops s hs).1) hlt (by omega) (z := a) (by rw [hab]; rfl)] at h1
      exact h1
    have HS : Hid ((sites r).getD (k + 1) 0 = a) := by show _ = _; simp [sites, hlt, hab]
    have hne : ((k : Int) + 1 == 0) = false := by rw [beq_eq_false_iff_ne]; omega
    clear hab hs has hsn hn
    go_enter Tryz.func121, Tryz.ntmps121
    go_wp2
    go_ret
    exact ⟨ret_int HS.out.symm, below1 _ _⟩

/- a square of the right size -/
set_option maxHeartbeats 1000000 in

theorem roads_eq {r : Rd} (h : RdOk r) : rdF (cellF r.roads) r.roads.length = roadsF r.roads := by
  funext i j
  rw [rdF_roads (fun s hs => by
    obtain ⟨a, b, c, rfl, hk⟩ := h.roads s hs
    have := roadOk_iff.1 hk
    exact ⟨a, b, c, rfl, by omega, by omega, by omega⟩) i j r.roads.length (Nat.le_refl _), List.take_length]
theorem rd_lens {r : Rd} (h : RdOk r) {N : Nat} (hN : r.nodes = N) : Lens N 10000 (roadsF r.roads) := roads_lens r.roads (by rw [← hN]; exact h.roads) _ (diag_lens _)
/- the table of the sites, as read -/
def siteD (r : Rd) (i j : Nat) : Int := wayF r (siteN r i) (siteN r j)

set_option maxRecDepth 100000 in
set_option maxHeartbeats 2000000 in
theorem rways_any (B B' : Nat) (r : Rd) (vs vr : Value) (w : World) (hok : RdOk r) (hs : w.ownsRow B 50 5 vs r.stops.length (ints r.stops.flatten)) (hr : w.ownsRow B' 52 3 vr r.roads.length (ints r.roads.flatten)) :
    Calls Tryz.prog 68 #[inst r vs vr] w fun e w' => ∃ v us, e = .returned v ∧ us.length = r.stops.length + 1 ∧ GridR w' w.heap.size w'.heap.size v (r.stops.length + 1) (siteD r) us ∧ Below w.heap.size w w' := by
  obtain ⟨i0, hi, hz0, hz1, hz2⟩ := info_parts Tryz.infoInt
  obtain ⟨j0, hj, hy0, hy1, hy2⟩ := info_parts Tryz.infoInts
  have hns := hok.nstops
  have hnr := hok.nroads
  have hhd := headOk_iff.1 hok.head
  obtain ⟨N, hN⟩ : ∃ N : Nat, r.nodes = N := ⟨r.nodes.toNat, by omega⟩
  have hN12 : N ≤ 12 := by omega
  have hN1 : 1 ≤ N := by omega
  have HSP : Hid (∀ W i, Below w.heap.size w W → i < r.stops.length + 1 → Calls Tryz.prog 121 #[inst r vs vr, .int .i64 i] W fun e w' => e = .returned (.int .i64 (siteN r i)) ∧ Below W.heap.size W w') := fun W i hW hi => by
    have h1 := rspot_any B i r vs vr W hok.nice hi (own_below hs hW)
    have h2 : (sites r).getD i 0 = (siteN r i : Int) := by
      unfold siteN
      have hl : i < (sites r).length := by rw [sites_length]; exact hi
      have := sites_ok hok _ (List.getElem_mem hl)
      rw [show (sites r).getD i 0 = (sites r)[i] by simp [hl]]; omega
    rw [h2] at h1; exact h1
  have HSN : Hid (∀ i, i < r.stops.length + 1 → siteN r i < N) := fun i hi => siteN_lt hok hN hi
  have HLN := hid (rd_lens hok hN)
  obtain ⟨aor, capr, hvr, hlr⟩ := lies_own hr hok.shape.roads
  obtain ⟨aos, caps, hvs, _, _⟩ := own_val hs
  subst hvr hvs
  have HRD : Hid (∀ W, Below w.heap.size w W → Calls Tryz.prog 119 #[.agg #[.int .i64 r.vans, .int .i64 r.load, .int .i64 r.close, .int .i64 N, .int .i64 r.home, .slice aos r.stops.length caps, .slice aor r.roads.length capr]] W fun e w' => ∃ v us, e = .returned v ∧ us.length = N ∧ GridR w' W.heap.size w'.heap.size v N (roadsF r.roads) us ∧ Below W.heap.size W w') := fun W hW => by
    have h1 := rroads_any r.vans r.load r.close r.home N (cellF r.roads) (.slice aos r.stops.length caps) aor r.roads.length capr W hN12 hnr (hlr.below hW) ⟨_, _, _, rfl⟩
    rw [roads_eq hok] at h1; exact h1
  have HWF : Hid (siteD r = fun i j => fwF (roadsF r.roads) N (siteN r i) (siteN r j)) := by
    show _ = _; funext i j; unfold siteD wayF; rw [show r.nodes.toNat = N by omega]
  generalize siteD r = SD at *
  clear hs hr hlr hok hhd
  unfold inst at *
  rw [hN] at *
  go_enter Tryz.func68, Tryz.ntmps68
  go_wp2_with fail
  refine (HRD.out _ (below1 w _)).mono ?_
  rintro e1 w1 ⟨v1, us1, rfl, hul, hg1, hb1⟩
  have HX1 : Hid (w1.heap[w.heap.size]? = some (.cells #[.int .i64 r.vans, .int .i64 r.load, .int .i64 r.close, .int .i64 N, .int .i64 r.home, .slice aos r.stops.length caps, .slice aor r.roads.length capr] 36 (0, 0))) := by
    show _ = _; rw [hb1.block _ (by simp)]; exact heap_alloc_new w _
  have HG1 := hid (hg1.base (show w.heap.size ≤ _ by simp))
  have HB1 : Hid (Below w.heap.size w w1) := (below1 w _).trans (hb1.mono (by simp))
  have hx1 : w.heap.size < w1.heap.size := (Array.getElem?_eq_some_iff.1 HX1.out).1
  obtain ⟨av1, cv1, hv1, _, _⟩ := own_val HG1.out.own
  rw [hul] at hv1
  subst hv1
  have HUL := hid hul
  clear hg1 hb1 HRD hul
  go_wp2_with fail
  go_loopw [3, 4] (fun wv i wr => ∃ (p : Nat) (us : List Value), i = .int .i64 p ∧ p ≤ N ∧ us.length = N ∧ Hid (GridR wr w.heap.size wr.heap.size wv N (fwF (roadsF r.roads) p) us) ∧ Hid (Below w1.heap.size w1 wr)) (fun _ i _ => N - (intOf i).toNat)
  case atStart => exact ⟨0, us1, rfl, by omega, HUL.out, HG1, Below.refl _ _⟩
  case round =>
    obtain ⟨p, us, rfl, hp, hul, HG, HB⟩ := hrel
    have hbs := HB.out.size
    have hxb := (HB.out.block _ hx1).trans HX1.out
    obtain ⟨avw, cvw, hwv, _, _⟩ := own_val HG.out.own
    rw [hul] at hwv
    subst hwv
    have HUS := hid hul
    clear hul
    obtain ⟨x0, x1, x2, x3, x4, x5, x6, _⟩ := seven hxb
    by_cases hlt : p < N
    · have HOV := hid (over_any w.heap.size wr.heap.size N p (.slice avw N cvw) (fwF (roadsF r.roads) p) us wr hN12 hlt HUS.out (fun a b ha hb => (fw_lens12 HLN.out hN12 hp).2 a b ha hb) HG.out)
      clear x0 x1 x2 x4 x5 x6 hxb
      go_wp2_with fail
      refine HOV.out.mono ?_
      rintro e2 w2 ⟨v2, us2, rfl, hul2, hg2, hb2⟩
      have HG2 : Hid (GridR w2 w.heap.size w2.heap.size v2 N (fwF (roadsF r.roads) (p + 1)) us2) := hg2.base (by have := HB1.out.size; omega)
      have HB2 : Hid (Below w1.heap.size w1 w2) := HB.out.trans (hb2.mono hbs)
      obtain ⟨_, _, hv2, _, _⟩ := own_val hg2.own
      rw [hul2] at hv2
      subst hv2
      clear hg2 hb2 HOV HG HB
      go_wp2
      go_roundw
      case rel => exact ⟨p + 1, us2, by go_num, by omega, hul2, HG2, HB2⟩
      case measure => simp [intOf]; omega
    · have HGN : Hid (GridR wr w.heap.size wr.heap.size (.slice avw N cvw) N (fwF (roadsF r.roads) N) us) := by
        have hpn : p = N := by omega
        have h := HG.out
        rw [hpn] at h; exact h
      obtain ⟨wa, hwa⟩ : ∃ wa, wa = wr := ⟨_, rfl⟩
      have HGA : Hid (GridR wa w.heap.size wa.heap.size (.slice avw N cvw) N (fwF (roadsF r.roads) N) us) := by show GridR _ _ _ _ _ _ _; rw [hwa]; exact HGN.out
      have HXA : Hid (wa.heap[w.heap.size]? = some (.cells #[.int .i64 r.vans, .int .i64 r.load, .int .i64 r.close, .int .i64 N, .int .i64 r.home, .slice aos r.stops.length caps, .slice aor r.roads.length capr] 36 (0, 0))) := by show _ = _; rw [hwa]; exact hxb
      have HBA : Hid (Below w.heap.size w wa) := by show Below _ _ _; rw [hwa]; exact HB1.out.trans (HB.out.mono HB1.out.size)
      have hxa : w.heap.size < wa.heap.size := by rw [hwa]; omega
      go_wp2_with fail
      rw [← hwa]
      clear hwa HG HB HGN hbs hxb x0 x1 x2 x3 x4 x5 x6 HX1 HG1 HB1 hx1
      generalize hns' : r.stops.length + 1 = n at *
      go_loopw [5, 6] (fun ov i wr => ∃ (k : Nat) (os : List Value), i = .int .i64 k ∧ k ≤ n ∧ os.length = k ∧ Hid (GridR wr wa.heap.size wr.heap.size ov n SD os) ∧ Hid (Below wa.heap.size wa wr)) (fun _ i _ => n - (intOf i).toNat)
      case atStart => exact ⟨0, [], rfl, by omega, rfl, GridR.nil _ _ _ _ _, Below.refl _ _⟩
      case round =>
        obtain ⟨k, os, rfl, hk, hol, HG, HB⟩ := hrel
        have hbs := HB.out.size
        have hxb := (HB.out.block _ hxa).trans HXA.out
        obtain ⟨x0, x1, x2, x3, x4, x5, x6, _⟩ := seven hxb
        obtain ⟨avo, cvo, hov, _, _⟩ := own_val HG.out.own
        rw [hol] at hov
        subst hov
        have hxl : w.heap.size < wr.heap.size := by omega
        by_cases hlt2 : k < n
        · have HSC := hid (HSP.out wr k (HBA.out.trans (HB.out.mono (by omega))) hlt2)
          have hkk : (k : Int) ≤ (r.stops.length : Int) := by omega
          go_wp2_with fail
          refine HSC.out.mono ?_
          rintro e3 w3 ⟨rfl, hb3⟩
          have hb03 : Below wa.heap.size wa w3 := HB.out.trans (hb3.mono hbs)
          have HG3 := hid (HG.out.below hb3 hb3.size)
          have HB3 := hid hb03
          have hs3 : wa.heap.size ≤ w3.heap.size := hb03.size
          have hsk := HSN.out k hlt2
          clear hb3 hb03 HSC HG HB hbs hxb x0 x1 x2 x3 x4 x5 x6 hxl
          go_wp2_with fail
          go_loopw [7, 9] (fun l j wr => ∃ q : Nat, j = .int .i64 q ∧ q ≤ n ∧ Hid (wr.ownsRow w3.heap.size 3 1 l q (ints ((List.range q).map (SD k)))) ∧ Hid (GridR wr wa.heap.size w3.heap.size (.slice avo k cvo) n SD os) ∧ Hid (Below w3.heap.size w3 wr)) (fun _ j _ => n - (intOf j).toNat)
          case atStart => exact ⟨0, rfl, by omega, World.ownsRow_nil _ _ _ _, HG3, Below.refl _ _⟩
          case round =>
            obtain ⟨q, rfl, hq, HL, HG, HB⟩ := hrel
            have hbs := HB.out.size
            have hba : Below wa.heap.size wa wr := HB3.out.trans (HB.out.mono hs3)
            have hxb := (hba.block _ hxa).trans HXA.out
            obtain ⟨x0, x1, x2, x3, x4, x5, x6, _⟩ := seven hxb
            have hxl : w.heap.size < wr.heap.size := by omega
            obtain ⟨avl, cvl, hlv, _, _⟩ := own_val HL.out
            subst hlv
            have HBA2 := hid hba
            clear hba hxb
            by_cases hlq : q < n
            · have HSC := hid (HSP.out wr q (HBA.out.trans (HBA2.out.mono (by omega))) hlq)
              have hqk : (q : Int) ≤ (r.stops.length : Int) := by omega
              have hsq := HSN.out q hlq
              go_wp2_with fail
              refine HSC.out.mono ?_
              rintro e4 w4 ⟨rfl, hb4⟩
              have hba4 : Below wa.heap.size wa w4 := HBA2.out.trans (hb4.mono HBA2.out.size)
              have hsrc := HGA.out.below hba4 (Nat.le_refl _)
              obtain ⟨g, c, gp, cp, e1, hg, y1, hgp, z1⟩ := hsrc.at (i := siteN r k) (by rw [HUS.out]; exact hsk)
              rw [HUS.out] at e1
              cases e1
              have y2 := z1 (siteN r q) hsq
              have HV : Hid (SD k q = fwF (roadsF r.roads) N (siteN r k) (siteN r q)) := by show _ = _; rw [HWF.out]
              have HL4 := hid (own_below HL.out hb4)
              have HG4 := hid (HG.out.below hb4 (Nat.le_refl _))
              have HB4 : Hid (Below w3.heap.size w3 w4) := HB.out.trans (hb4.mono hbs)
              have hb4s : w3.heap.size ≤ w4.heap.size := HB4.out.size
              clear z1 hsrc hba4 hb4 HSC x0 x1 x2 x3 x4 x5 x6 HL HG HB HBA2 hxl
              generalize fwF (roadsF r.roads) N (siteN r k) (siteN r q) = VV at *
              go_wp2_with (at_builtin; refine wpList_append_own _ rfl _ _ 53 rfl w3.heap.size 3 i0 (.int .i64 0) 1 8 Tryz.underlying53 hi hz0 hz1 hz2 rfl (by decide) _ _ _ rfl (HL4.out.alloc _) ⟨w4.heap.size, 0, none⟩ 1 1 [.int .i64 VV] rfl rfl ?c1 ?c2 ?c3 ?c4 ?c5 ?_)
              case c1 => exact news_at rfl rfl
              case c2 => intro u hu; simp at hu; subst hu; rfl
              case c3 => unfold maxLen; omega
              case c4 => omega
              case c5 => simp; omega
              intro v' w6 hown6 hgr6 _
              have HL2 : Hid (w6.ownsRow w3.heap.size 3 1 v' (q + 1) (ints ((List.range (q + 1)).map (SD k)))) := by
                show World.ownsRow _ _ _ _ _ _ _
                have e : ints ((List.range (q + 1)).map (SD k)) = ints ((List.range q).map (SD k)) ++ [.int .i64 VV] := by rw [← HV.out]; simp [ints, List.range_succ]
                rw [e]; exact hown6
              have hgg : (w4.alloc (.cells #[.int .i64 VV] 3)).grownBy w6 (Value.slice avl q cvl).ownBlock := hgr6
              have HG5 : Hid (GridR w6 wa.heap.size w3.heap.size (.slice avo k cvo) n SD os) := (HG4.out.below (below1 w4 _) (Nat.le_refl _)).grown (own_below HL4.out (below1 w4 _)) (Nat.le_refl _) hgg
              have HB5 : Hid (Below w3.heap.size w3 w6) := (HB4.out.trans ((below1 w4 _).mono HB4.out.size)).grown hgg (by simp; omega) (fun x hx => (HL4.out.lt x hx).1)
              obtain ⟨_, _, hv6, _, _⟩ := own_val HL2.out
              subst hv6
              clear hown6 hgr6 hgg y1 y2 HL4 HG4 HB4
              go_wp2
              go_roundw
              case rel => exact ⟨q + 1, by go_num, by omega, HL2, HG5, HB5⟩
              case measure => simp [intOf]; omega
            · have hqn : q = n := by omega
              have HL' : Hid (wr.ownsRow w3.heap.size 3 1 (.slice avl q cvl) n (ints ((List.range n).map (SD k)))) := by
                have h := HL.out; rw [hqn] at h ⊢; exact h
              clear hqn
              go_wp2_with (at_builtin; refine wpList_append_own _ rfl _ _ 26 rfl wa.heap.size 53 j0 (.slice none 0 0) 1 24 Tryz.underlying26 hj hy0 hy1 hy2 rfl (by decide) _ _ _ rfl ((HG.out.own).alloc _) ⟨wr.heap.size, 0, none⟩ 1 1 [.slice avl q cvl] rfl rfl ?c1 ?c2 ?c3 ?c4 ?c5 ?_)
              case c1 => exact news_at rfl rfl
              case c2 => intro u hu; simp at hu; subst hu; rfl
              case c3 => unfold maxLen; omega
              case c4 => omega
              case c5 => simp; omega
              intro v7 w7 hown7 hgr7 _
              have hgg : (wr.alloc (.cells #[.slice avl q cvl] 53)).grownBy w7 (Value.slice avo k cvo).ownBlock := hgr7
              have HG7 : Hid (GridR w7 wa.heap.size w7.heap.size v7 n SD (os ++ [.slice avl q cvl])) := HG.out.push HL'.out (by omega) (by omega) (below1 wr _) hgg (by rw [hol]; exact hown7) (fun j hj => by rw [hol]; simp [ints, hj])
              have HB7 : Hid (Below wa.heap.size wa w7) := ((HB3.out.trans (HB.out.mono hs3)).trans ((below1 wr _).mono (by omega))).grown hgg (by simp; omega) (fun x hx => (HG.out.own.lt x (by rw [hx])).1)
              obtain ⟨_, _, hv7, _, _⟩ := own_val hown7
              subst hv7
              clear hown7 hgr7 hgg HL HG HB HL' x0 x1 x2 x3 x4 x5 x6
              go_wp2
              go_roundw
              case rel => exact ⟨k + 1, _, by go_num, by omega, by simp [hol], HG7, HB7⟩
              case measure => simp [intOf]; omega
        · go_wp2
          go_ret
          have hkn : k = r.stops.length + 1 := by omega
          refine ⟨_, os, rfl, by omega, ?_, HBA.out.trans (HB.out.mono (by omega))⟩
          rw [hns']; exact HG.out.base (by omega)
end Go.Proofs.YtebinaopncclgaaGreatDoor
namespace Go.Proofs.YtebinaopncclgaaGreatDoor
open Go.RowKit Go.IntWalk

theorem retVI {a b : Value} {c d : Int} (h : a = b) (h' : c = d) : Ending.returned (.tuple #[a, .int .i64 c]) = .returned (.tuple #[b, .int .i64 d]) := by rw [h, h']
/- what Ways tells of a text -/
def WaysLeft (w : World) (x : Rd × Nat × Int) (e : Ending) (w' : World) : Prop :=
  ∃ v, e = .returned (.tuple #[v, .int .i64 x.2.2]) ∧ (x.2.2 ≠ 0 → v = .slice none 0 0) ∧ (x.2.2 = 0 → GridO w' w.heap.size v (x.1.stops.length + 1) (siteD x.1)) ∧ Below w.heap.size w w'
set_option maxRecDepth 100000 in
set_option maxHeartbeats 2000000 in
theorem dways_any (s : ByteArray) (w : World) (hs : s.size ≤ maxLen) : Calls Tryz.prog 29 #[.string s] w (WaysLeft w (parseS s.data.toList)) := by
  have HCP : Hid (∀ W, Calls Tryz.prog 59 #[.string s] W (Parsed W (parseS s.data.toList))) := fun W => parse_any s W hs
  have hok : (parseS s.data.toList).2.2 = 0 → RdOk (parseS s.data.toList).1 := parse_rdok
  generalize parseS s.data.toList = x at *
  obtain ⟨r, nat, er⟩ := x
  by_cases h0 : er = 0
  · subst h0
    have HOK := hid (hok rfl)
    have hns := HOK.out.nstops
    have hnr := HOK.out.nroads
    clear hok hs
    go_enter Tryz.func29, Tryz.ntmps29
    go_wp2_with fail
    refine (HCP.out _).mono ?_
    rintro e1 w1 ⟨vs, vr, rfl, hos, hor, hb1⟩
    have HOS := hid hos
    have HOR := hid hor
    have HB1 := hid hb1
    obtain ⟨aos, caps, hv1, _, _⟩ := own_val hos
    obtain ⟨aor, capr, hv2, _, _⟩ := own_val hor
    subst hv1 hv2
    unfold inst
    clear hos hor hb1
    go_wp2_with fail
    refine (between_own w.heap.size w.heap.size r (.slice aos r.stops.length caps) (.slice aor r.roads.length capr) _ HOK.out (HOS.out.alloc _) (HOR.out.alloc _)).mono ?_
    rintro e2 w2 ⟨v, rfl, hg, hb2⟩
    have HG := hid hg
    have HB2 := hid hb2
    obtain ⟨g, _, rfl, _⟩ := hg
    clear hb2
    go_wp2
    go_ret2
    exact ⟨_, retVI rfl rfl, fun h => absurd rfl h, fun _ => HG.out.base (by have := HB1.out.size; simp; omega), (HB1.out.alloc HB1.out.size _).trans (HB2.out.mono (by have := HB1.out.size; simp; omega))⟩
  · have hne : (er != 0) = true := by simp [h0]
    have HNE := hid h0
    clear hok hs h0
    go_enter Tryz.func29, Tryz.ntmps29
    go_wp2_with fail
    refine (HCP.out _).mono ?_
    rintro e1 w1 ⟨vs, vr, rfl, hos, hor, hb1⟩
    have HB1 := hid hb1
    obtain ⟨aos, caps, hv1, _, _⟩ := own_val hos
    obtain ⟨aor, capr, hv2, _, _⟩ := own_val hor
    subst hv1 hv2
    unfold inst
    clear hos hor hb1
    go_wp2
    go_ret2
    exact ⟨_, retVI rfl rfl, fun _ => rfl, fun h => absurd h HNE.out, by first | exact HB1.out | exact HB1.out.alloc HB1.out.size _⟩

/- a square that is read: n rows of n -/
def SqR (w : World) (v : Value) (n : Nat) (D : Nat → Nat → Int) : Prop :=
  ∃ ao c, v = .slice ao n c ∧ n ≤ 100 ∧ ∀ i, i < n → ∃ g gi ci, ao = some ⟨g, 0, none⟩ ∧ g < w.heap.size ∧ w.cell? ⟨g, i, none⟩ = some (.slice (some ⟨gi, 0, none⟩) n ci) ∧ gi < w.heap.size ∧ ∀ j, j < n → w.cell? ⟨gi, j, none⟩ = some (.int .i64 (D i j))
theorem SqR.below {w w' : World} {v : Value} {n : Nat} {D : Nat → Nat → Int} (h : SqR w v n D) (hb : Below w.heap.size w w') : SqR w' v n D := by
  obtain ⟨ao, c, h1, h2, h3⟩ := h
  refine ⟨ao, c, h1, h2, fun i hi => ?_⟩
  obtain ⟨g, gi, ci, k1, k2, k3, k4, k5⟩ := h3 i hi
  exact ⟨g, gi, ci, k1, Nat.lt_of_lt_of_le k2 hb.size, (hb.cell (by exact k2)).trans k3, Nat.lt_of_lt_of_le k4 hb.size, fun j hj => (hb.cell (by exact k4)).trans (k5 j hj)⟩
theorem GridO.sq {w : World} {B : Nat} {v : Value} {n : Nat} {D : Nat → Nat → Int} (h : GridO w B v n D) (hn : n ≤ 100) : SqR w v n D := by
  obtain ⟨g, rfl, hg, hr⟩ := h.grid
  refine ⟨_, _, rfl, hn, fun i hi => ?_⟩
  obtain ⟨gi, h1, h2, h3⟩ := hr i hi
  exact ⟨g, gi, n, rfl, hg.2, h1, h2.2, h3⟩
theorem GridR.sq {w : World} {B U n : Nat} {v : Value} {D : Nat → Nat → Int} {vs : List Value} (h : GridR w B U v n D vs) (hl : vs.length = n) (hn : n ≤ 100) : SqR w v n D := by
  obtain ⟨ao, c, hv, _, _⟩ := own_val h.own
  rw [hl] at hv
  refine ⟨ao, c, hv, hn, fun i hi => ?_⟩
  obtain ⟨g, c', gi, ci, e, h1, h2, h3, h4⟩ := h.at (i := i) (by omega)
  rw [hl, hv] at e
  cases e
  exact ⟨g, gi, ci, rfl, h1, h2, h3, h4⟩
theorem SqR.nil (w : World) (D : Nat → Nat → Int) : SqR w (.slice none 0 0) 0 D := ⟨none, 0, rfl, by omega, fun i hi => absurd hi (by omega)⟩

set_option maxHeartbeats 1000000 in
theorem sameInts_any (n ca cb : Nat) (aa ab : Option Addr) (D : Nat → Int) (w : World) (hn : n ≤ 1000000) (ha : ∀ j, j < n → ∃ g, aa = some ⟨g, 0, none⟩ ∧ g < w.heap.size ∧ w.cell? ⟨g, j, none⟩ = some (.int .i64 (D j))) (hb : ∀ j, j < n → ∃ g, ab = some ⟨g, 0, none⟩ ∧ g < w.heap.size ∧ w.cell? ⟨g, j, none⟩ = some (.int .i64 (D j))) :
    Calls Tryz.prog 37 #[.slice aa n ca, .slice ab n cb] w fun e w' => e = .returned (.bool true) ∧ Below w.heap.size w w' := by
  have HA := hid ha
  have HB := hid hb
  clear ha hb
  go_enter Tryz.func37, Tryz.ntmps37
  go_wp2_with fail
  go_loopw [5] (fun i wr => ∃ k : Nat, i = .int .i64 k ∧ k ≤ n ∧ Hid (Below w.heap.size w wr)) (fun i _ => n - (intOf i).toNat)
  case atStart => exact ⟨0, rfl, by omega, Below.refl _ _⟩
  case round =>
    obtain ⟨k, rfl, hk, HW⟩ := hrel
    by_cases hlt : k < n
    · obtain ⟨ga, rfl, hga, ca1⟩ := HA.out k hlt
      obtain ⟨gb, rfl, hgb, cb1⟩ := HB.out k hlt
      have x1 : wr.cell? ⟨ga, k, none⟩ = some (.int .i64 (D k)) := (HW.out.cell (by exact hga)).trans ca1
      have x2 : wr.cell? ⟨gb, k, none⟩ = some (.int .i64 (D k)) := (HW.out.cell (by exact hgb)).trans cb1
      generalize D k = d at *
      clear ca1 cb1
      have ik : (0 : Int) ≤ (k : Int) := by omega
      have jk : (k : Int) < (n : Int) := by omega
      go_wp2_with fail
      go_region_held3 (fun w' => w'.cell? ⟨ga, k, none⟩ = some (.int .i64 d) ∧ w'.cell? ⟨gb, k, none⟩ = some (.int .i64 d)) (go_keep) (fail)
      go_wp2
      go_roundw
      case rel => exact ⟨k + 1, by go_num, by omega, HW.out.drew⟩
      case measure => simp [intOf]; omega
    · go_wp2
      go_ret
      exact ⟨rfl, HW.out⟩

set_option maxHeartbeats 1000000 in
theorem sameSquare_any (n : Nat) (va vb : Value) (D : Nat → Nat → Int) (w : World) (ha : SqR w va n D) (hb : SqR w vb n D) :
    Calls Tryz.prog 31 #[va, vb] w fun e w' => e = .returned (.bool true) ∧ Below w.heap.size w w' := by
  have HA := hid ha
  have HB := hid hb
  have hn : n ≤ 100 := by obtain ⟨_, _, _, h, _⟩ := ha; exact h
  obtain ⟨aa, ca, hva, _⟩ := ha
  obtain ⟨ab, cb, hvb, _⟩ := hb
  subst hva hvb
  go_enter Tryz.func31, Tryz.ntmps31
  go_wp2_with fail
  go_loopw [5] (fun i wr => ∃ k : Nat, i = .int .i64 k ∧ k ≤ n ∧ Hid (Below w.heap.size w wr)) (fun i _ => n - (intOf i).toNat)
  case atStart => exact ⟨0, rfl, by omega, Below.refl _ _⟩
  case round =>
    obtain ⟨k, rfl, hk, HW⟩ := hrel
    by_cases hlt : k < n
    · obtain ⟨_, _, e1, _, h1⟩ := HA.out.below HW.out
      obtain ⟨_, _, e2, _, h2⟩ := HB.out.below HW.out
      cases e1
      cases e2
      obtain ⟨ga, gi, ci, rfl, hga, x1, hgi, y1⟩ := h1 k hlt
      obtain ⟨gb, gj, cj, rfl, hgb, x2, hgj, y2⟩ := h2 k hlt
      have HC : Hid (∀ W, Below wr.heap.size wr W → Calls Tryz.prog 37 #[.slice (some ⟨gi, 0, none⟩) n ci, .slice (some ⟨gj, 0, none⟩) n cj] W fun e w' => e = .returned (.bool true) ∧ Below W.heap.size W w') :=
        fun W hW => sameInts_any n ci cj _ _ (D k) W (by omega) (fun j hj => ⟨gi, rfl, Nat.lt_of_lt_of_le hgi hW.size, (hW.cell (by exact hgi)).trans (y1 j hj)⟩) (fun j hj => ⟨gj, rfl, Nat.lt_of_lt_of_le hgj hW.size, (hW.cell (by exact hgj)).trans (y2 j hj)⟩)
      have ik : (0 : Int) ≤ (k : Int) := by omega
      have jk : (k : Int) < (n : Int) := by omega
      clear h1 h2 y1 y2
      go_wp2_with fail
      go_region_held3 (fun w' => w'.cell? ⟨ga, k, none⟩ = some (.slice (some ⟨gi, 0, none⟩) n ci) ∧ w'.cell? ⟨gb, k, none⟩ = some (.slice (some ⟨gj, 0, none⟩) n cj)) (go_keep)
        (first
          | (go_at_call 37; refine (HC.out _ ((Below.refl _ _).drew)).mono ?_; rintro e2 w2 ⟨rfl, hb2⟩; have hw2 : Below wr.heap.size wr w2 := ⟨hb2.os, hb2.tape, hb2.output, hb2.size, hb2.block⟩; have m0 := (hw2.cell (p := ⟨ga, k, none⟩) (by exact hga)).trans x1; have m1 := (hw2.cell (p := ⟨gb, k, none⟩) (by exact hgb)).trans x2; have HW2 := hide hw2; clear hw2 hb2))
      clear m0 m1
      go_wp2
      go_roundw
      case rel => exact ⟨k + 1, by go_num, by omega, HW.out.trans (HW2.out.mono HW.out.size)⟩
      case measure => simp [intOf]; omega
    · go_wp2
      go_ret
      exact ⟨rfl, HW.out⟩
end Go.Proofs.YtebinaopncclgaaGreatDoor
