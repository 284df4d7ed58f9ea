/- Walks: a plan is driven by the statement. -/
import Derived.Test.YtebinaopncclgabDrvW
import Derived.Test.YtebinaopncclgabLaw
import Derived.BigQuiet
namespace Go.Proofs.Ytebinaopncclgab
open Go.RowKit Go.IntWalk

theorem inst_box {w W : World} {r : Rd} {vs vr : Value} (h : W = w.alloc (.cells (yCells r vs vr) 25)) :
    Below w.heap.size w W ∧ w.heap.size < W.heap.size ∧ W.cell? ⟨w.heap.size, 0, none⟩ = some (.int .i64 r.vans) ∧ W.cell? ⟨w.heap.size, 1, none⟩ = some (.int .i64 r.load) ∧ W.cell? ⟨w.heap.size, 2, none⟩ = some (.int .i64 r.close) ∧ W.cell? ⟨w.heap.size, 3, none⟩ = some (.int .i64 r.nodes) ∧ W.cell? ⟨w.heap.size, 4, none⟩ = some (.int .i64 r.home) ∧ W.cell? ⟨w.heap.size, 5, none⟩ = some vs ∧ W.cell? ⟨w.heap.size, 6, none⟩ = some vr := by
  subst h
  have hb := heap_alloc_new w (.cells (yCells r vs vr) 25)
  refine ⟨below1 w _, by simp, ?_, ?_, ?_, ?_, ?_, ?_, ?_⟩ <;> (rw [cell_of_row _ _ _ _ _ _ hb]; rfl)
theorem below_drewN {B : Nat} {w w' : World} (h : Below B w w') (m : Nat) : Below B w (w'.drewN m) := ⟨h.os, h.tape, h.output, h.size, h.block⟩
/- may the van go home? -/
def homeOk (r : Rd) (D : Nat → Nat → Int) (p : Nat) (now : Int) : Bool := decide (D p 0 ≠ -1 ∧ now + D p 0 ≤ r.close)
theorem home_some {r : Rd} {D : Nat → Nat → Int} {x : Dv} (h : homeOk r D x.spot x.now = true) : dvHome r D x = some ⟨x.cost + D x.spot 0, 0, 0, 0, x.S⟩ := by
  have h1 := of_decide_eq_true h
  unfold dvHome
  rw [if_neg (by omega)]
theorem home_none {r : Rd} {D : Nat → Nat → Int} {x : Dv} (h : homeOk r D x.spot x.now = false) : dvHome r D x = none := by
  have h1 := of_decide_eq_false h
  unfold dvHome
  rw [if_pos (by omega)]

set_option maxRecDepth 100000 in
set_option maxHeartbeats 2000000 in
theorem home_any (r : Rd) (D : Nat → Nat → Int) (p : Nat) (now : Int) (vs vr vw : Value) (w : World) (hq : SqR w vw (r.stops.length + 1) D) (hD : ∀ a b, a < r.stops.length + 1 → b < r.stops.length + 1 → -1 ≤ D a b ∧ D a b ≤ 40960000) (hp : p < r.stops.length + 1) (hnow : -1000 ≤ now ∧ now ≤ 100000000000) (_hc : 0 ≤ r.close ∧ r.close ≤ 10000) (hvs : ∃ ao n c, vs = .slice ao n c) (hvr : ∃ ao n c, vr = .slice ao n c) :
    Calls Try.prog 15 #[inst r vs vr, vw, .int .i64 p, .int .i64 now] w fun e w' => e = .returned (.tuple #[.int .i64 (D p 0), .bool (homeOk r D p now)]) ∧ Below w.heap.size w w' := by
  obtain ⟨af, cf, rfl, hn, hsq⟩ := hq
  obtain ⟨fg, fgi, fci, rfl, hfg, hfc, hfgi, hfr⟩ := hsq p hp
  have hd := hfr 0 (by omega)
  have hdb := hD p 0 hp (by omega)
  obtain ⟨d, hdd⟩ : ∃ d, d = D p 0 := ⟨_, rfl⟩
  have HH : Hid (homeOk r D p now = decide (d ≠ -1 ∧ now + d ≤ r.close)) := by show _ = _; unfold homeOk; rw [hdd]
  rw [← hdd] at hd hdb ⊢
  obtain ⟨a1, n1, c1, rfl⟩ := hvr
  obtain ⟨a2, n2, c2, rfl⟩ := hvs
  have ip : (0 : Int) ≤ (p : Int) := by omega
  have jp : (p : Int) < (r.stops.length : Int) + 1 := by omega
  generalize homeOk r D p now = ho at *
  clear hsq hfr hD hdd
  unfold inst
  by_cases hno : d = -1
  · have HX : Hid (ho = false) := by show _ = _; rw [HH.out]; simp [hno]
    have e1 : (d != (-1 : Int)) = false := by simp [hno]
    have hws : IntKind.i64.wrap (now + d) = now + d := i64_fits _ (by omega)
    clear hno HH
    go_enter Try.func15, Try.ntmps15
    go_wp2_with go_in
    go_quiet (fail)
    go_wp2
    go_ret2
    refine ⟨?_, by first | exact below_drewN (below1 w _) _ | exact (below1 w _).drew | exact below1 w _⟩
    rw [HX.out]; rfl
  · have e1 : (d != (-1 : Int)) = true := by simpa using hno
    have hws : IntKind.i64.wrap (now + d) = now + d := i64_fits _ (by omega)
    have HX : Hid (ho = decide (now + d ≤ r.close)) := by show _ = _; rw [HH.out]; simp [hno]
    go_enter Try.func15, Try.ntmps15
    go_wp2_with go_in
    go_region_held3 (fun w' => w'.cell? ⟨w.heap.size, 2, none⟩ = some (.int .i64 r.close)) (go_keep) (fail)
    go_wp2
    go_ret2
    refine ⟨?_, by first | exact (below1 w _).drew | exact below1 w _⟩
    rw [HX.out]; rfl

/- what a plan that is driven leaves -/
def drvS (r : Rd) (D : Nat → Nat → Int) (l : List UInt8) : Option (Int × List Int) := if textFaultS r.stops.length l = 0 ∧ ¬ r.vans < ((routesS l).length : Int) then drivenS r D (List.replicate r.stops.length 0) l else none
def DrvLeft (w : World) (n : Nat) (x : Option (Int × List Int)) (e : Ending) (w' : World) : Prop :=
  (x = none → e = .returned (.tuple #[.int .i64 0, .slice none 0 0, .bool false])) ∧ (∀ C S, x = some (C, S) → ∃ v, e = .returned (.tuple #[.int .i64 C, v, .bool true]) ∧ w'.ownsRow w.heap.size 3 1 v n (ints S) ∧ S.length = n) ∧ Below w.heap.size w w'

set_option maxRecDepth 100000 in
set_option maxHeartbeats 8000000 in
theorem driven_any (r : Rd) (D : Nat → Nat → Int) (s : ByteArray) (vs vr vw : Value) (w : World) (hok : RdOk r) (hs : StR w vs r) (hq : SqR w vw (r.stops.length + 1) D) (hD : ∀ a b, a < r.stops.length + 1 → b < r.stops.length + 1 → -1 ≤ D a b ∧ D a b ≤ 40960000) (hsz : s.size ≤ 140737488355328) (hvr : ∃ ao n c, vr = .slice ao n c) :
    Calls Try.prog 7 #[inst r vs vr, vw, .string s] w (DrvLeft w r.stops.length (drvS r D s.data.toList)) := by
  obtain ⟨i0, hi, hz0, hz1, hz2⟩ := info_parts Try.infoInt
  obtain ⟨W, hW⟩ : ∃ W, W = w.alloc (.cells (yCells r vs vr) 25) := ⟨_, rfl⟩
  obtain ⟨hbW, hbox, k0, k1, k2, k3, k4, k5, k6⟩ := inst_box hW
  have HBW := hid hbW
  have hn := hok.nstops
  have HWH : Hid (Calls Try.prog 13 #[.string s, .int .i64 r.stops.length] W fun e w' => e = .returned (.bool (decide (textFaultS r.stops.length s.data.toList = 0))) ∧ Below W.heap.size W w') := whole_any r.stops.length s W hn (by unfold maxLen; omega)
  have HRT : Hid (∀ W', Calls Try.prog 14 #[.string s] W' fun e w' => e = .returned (.int .i64 ((routesS s.data.toList).length : Nat)) ∧ w' = W') := fun W' => kroutes_any s W' hsz
  have HVC : Hid (0 ≤ r.vans ∧ r.vans ≤ 10000 ∧ 0 ≤ r.load ∧ r.load ≤ 10000 ∧ 0 ≤ r.close ∧ r.close ≤ 10000) := by
    have := headOk_iff.1 hok.head
    show _ ∧ _
    omega
  have hvc := HVC.out
  have HS := hid (hs.below hbW)
  have HQ := hid (hq.below hbW)
  have hvw : ∃ ao n c, vw = .slice ao n c := by obtain ⟨a, c, e, _⟩ := hq; exact ⟨a, _, c, e⟩
  have hvs : ∃ ao c, vs = .slice ao r.stops.length c := by obtain ⟨a, c, e, _⟩ := hs; exact ⟨a, c, e⟩
  obtain ⟨ast, cs, rfl⟩ := hvs
  have hvr' := hvr
  have HHM : Hid (∀ (p : Nat) (now : Int) (W' : World), Below W.heap.size W W' → p < r.stops.length + 1 → (-1000 ≤ now ∧ now ≤ 100000000000) → Calls Try.prog 15 #[inst r (.slice ast r.stops.length cs) vr, vw, .int .i64 p, .int .i64 now] W' fun e w' => e = .returned (.tuple #[.int .i64 (D p 0), .bool (homeOk r D p now)]) ∧ Below W'.heap.size W' w') := fun p now W' hb hp hnow => home_any r D p now _ _ _ W' (HQ.out.below hb) hD hp hnow (by omega) ⟨_, _, _, rfl⟩ hvr'
  have HDD := hid hD
  have HOK := hid hok
  have HDV : Hid (∀ l : List UInt8, (∀ c ∈ l, c = 47 ∨ 49 ≤ c.toNat) → True) := fun _ _ => trivial
  clear HDV
  obtain ⟨a1, n1, c1, rfl⟩ := hvr
  obtain ⟨a2, n2, c2, rfl⟩ := hvw
  have HWQ := hid hW
  have hlb : (routesS s.data.toList).length ≤ 140737488355329 := by
    have h1 := routes_count s.data.toList
    have h2 : s.data.toList.length = s.size := by simp
    omega
  clear hW hbW hok hs hq hD hvr'
  unfold yCells inst at *
  by_cases hf : textFaultS r.stops.length s.data.toList = 0
  · rw [decide_eq_true hf] at HWH
    by_cases hv : r.vans < ((routesS s.data.toList).length : Int)
    · have HX : Hid (drvS r D s.data.toList = none) := by show _ = _; unfold drvS; rw [if_neg (fun h => h.2 hv)]
      generalize drvS r D s.data.toList = ans at *
      generalize (routesS s.data.toList).length = m at *
      clear hf
      go_enter Try.func7, Try.ntmps7
      go_wp2_with (first
        | (go_at_call 13; rw [← HWQ.out]; refine HWH.out.mono ?_; rintro e1 w1 ⟨rfl, hb1⟩; have HB1 := hid hb1; have y0 : w1.cell? _ = _ := (hb1.cell (by exact hbox)).trans k0; have hbx1 : w.heap.size < w1.heap.size := Nat.lt_of_lt_of_le hbox hb1.size; clear hb1)
        | (go_at_call 14; refine (HRT.out _).mono ?_; rintro e2 w2 ⟨he2, hw2⟩; subst he2; rw [hw2]; clear hw2 w2)
        | go_in)
      go_ret3
      exact ⟨fun _ => rfl, fun C S e => (by rw [HX.out] at e; cases e), HBW.out.trans (HB1.out.mono HBW.out.size)⟩
    · obtain ⟨Z, hZ⟩ : ∃ Z, Z = List.replicate r.stops.length (0 : Int) := ⟨_, rfl⟩
      have hZl : Z.length = r.stops.length := by rw [hZ]; simp
      have HA : Hid (drvS r D s.data.toList = drivenS r D Z s.data.toList) := by show _ = _; unfold drvS; rw [if_pos ⟨hf, hv⟩, hZ]
      obtain ⟨hs14, hpl, _⟩ := fine_size hf
      have hs15 : s.size ≤ 14 := by
        have h2 : s.data.toList.length = s.size := by simp
        omega
      have HPB : Hid (∀ k (h : k < s.size), s[k] = 47 ∨ (49 ≤ s[k].toNat ∧ s[k].toNat - 48 ≤ r.stops.length)) := fun k h => plan_byte hpl (k := k) (by simpa using h)
      have HNO : Hid (∀ k, dvGo r D Z (s.data.toList.take k) = none → drvS r D s.data.toList = none) := fun k h => by
        have h1 := dvGo_none r D Z (s.data.toList.take k) (s.data.toList.drop k) h
        rw [List.take_append_drop] at h1
        rw [HA.out]
        unfold drivenS
        by_cases he : s.data.toList = []
        · rw [he] at h
          simp [dvGo] at h
        · rw [if_neg he, h1]
      have HZZ := hid hZ
      generalize drvS r D s.data.toList = ans at *
      generalize hm : (routesS s.data.toList).length = m at *
      clear hf hs14 hpl hm hZ
      go_enter Try.func7, Try.ntmps7
      go_wp2_with (first
        | (go_at_call 13; rw [← HWQ.out]; refine HWH.out.mono ?_; rintro e1 w1 ⟨rfl, hb1⟩; have HB1 := hid hb1; have y0 : w1.cell? _ = _ := (hb1.cell (by exact hbox)).trans k0; have y5 : w1.cell? _ = _ := (hb1.cell (by exact hbox)).trans k5; have hbx1 : w.heap.size < w1.heap.size := Nat.lt_of_lt_of_le hbox hb1.size; clear hb1)
        | (go_at_call 14; refine (HRT.out _).mono ?_; rintro e2 w2 ⟨he2, hw2⟩; subst he2; rw [hw2]; clear hw2 w2)
        | (at_make; refine wpList_make_full _ rfl _ _ 31 rfl w1.heap.size 3 i0 (.int .i64 0) 1 Try.underlying31 hi hz0 hz1 .i64 .i64 _ _ r.stops.length rfl rfl ?m1 ?m2 ?m3 ?m4 ?m5 ?_)
        | go_in)
      case m1 => rfl
      case m2 => rfl
      case m3 => rw [hz2]; omega
      case m4 => unfold maxLen; omega
      case m5 => exact Nat.le_refl _
      intro w5 hown5 hgr5
      have HB5 : Hid (Below w1.heap.size w1 w5) := (Below.refl _ _).grown hgr5 (Nat.le_refl _) (by simp)
      have HO5 : Hid (w5.ownsRow w1.heap.size 3 1 (.slice (some ⟨w1.heap.size, 0, none⟩) r.stops.length r.stops.length) r.stops.length (ints Z)) := by
        have e : (madeCells #[Value.int IntKind.i64 0] r.stops.length).toList = ints Z := by rw [toList_madeCells_one, HZZ.out]; simp [ints]
        show World.ownsRow _ _ _ _ _ _ _
        rw [← e]; exact hown5
      have HY : Hid (w1.cell? ⟨w.heap.size, 0, none⟩ = some (.int .i64 r.vans) ∧ w1.cell? ⟨w.heap.size, 1, none⟩ = some (.int .i64 r.load) ∧ w1.cell? ⟨w.heap.size, 2, none⟩ = some (.int .i64 r.close) ∧ w1.cell? ⟨w.heap.size, 3, none⟩ = some (.int .i64 r.nodes) ∧ w1.cell? ⟨w.heap.size, 4, none⟩ = some (.int .i64 r.home) ∧ w1.cell? ⟨w.heap.size, 5, none⟩ = some (.slice ast r.stops.length cs) ∧ w1.cell? ⟨w.heap.size, 6, none⟩ = some (.slice a1 n1 c1)) := ⟨y0, (HB1.out.cell (by exact hbox)).trans k1, (HB1.out.cell (by exact hbox)).trans k2, (HB1.out.cell (by exact hbox)).trans k3, (HB1.out.cell (by exact hbox)).trans k4, y5, (HB1.out.cell (by exact hbox)).trans k6⟩
      have HS1 := hid (HS.out.below HB1.out)
      have HQ1 := hid (HQ.out.below HB1.out)
      clear hown5 hgr5 y0 y5 k0 k1 k2 k3 k4 k5 k6 HWH HRT hv hlb
      go_wp2_with fail
      go_loopw [12, 13, 14, 15, 16] (fun cv av nv wv i wr => ∃ (k p : Nat) (C now want : Int) (S : List Int), i = .int .i64 k ∧ cv = .int .i64 C ∧ av = .int .i64 p ∧ nv = .int .i64 now ∧ wv = .int .i64 want ∧ k ≤ s.size ∧ p < r.stops.length + 1 ∧ (-(k : Int) ≤ C ∧ C ≤ (k : Int) * 40960000) ∧ (-(k : Int) ≤ now ∧ now ≤ (k : Int) * 41000000) ∧ (0 ≤ want ∧ want ≤ (k : Int) * 10000) ∧ S.length = r.stops.length ∧ Hid (dvGo r D Z (s.data.toList.take k) = some ⟨C, p, now, want, S⟩) ∧ Hid (wr.ownsRow w1.heap.size 3 1 (.slice (some ⟨w1.heap.size, 0, none⟩) r.stops.length r.stops.length) r.stops.length (ints S)) ∧ Hid (Below w1.heap.size w1 wr)) (fun _ _ _ _ i _ => s.size - (intOf i).toNat)
      case atStart => exact ⟨0, 0, 0, 0, 0, Z, rfl, rfl, rfl, rfl, rfl, by omega, by omega, by omega, by omega, by omega, hZl, rfl, HO5, HB5⟩
      case round =>
        clear HO5 HB5
        obtain ⟨k, p, C, now, want, S, rfl, rfl, rfl, rfl, rfl, hk, hp, hC, hnow, hwant, hSl, HG, HO, HB⟩ := hrel
        have HBB : Hid (Below W.heap.size W wr) := HB1.out.trans (HB.out.mono HB1.out.size)
        have hbw : w.heap.size < wr.heap.size := Nat.lt_of_lt_of_le hbox HBB.out.size
        have hbx1 : w.heap.size < w1.heap.size := Nat.lt_of_lt_of_le hbox HB1.out.size
        have y0 : wr.cell? _ = _ := (HB.out.cell (by exact hbx1)).trans HY.out.1
        have y1 : wr.cell? _ = _ := (HB.out.cell (by exact hbx1)).trans HY.out.2.1
        have y2 : wr.cell? _ = _ := (HB.out.cell (by exact hbx1)).trans HY.out.2.2.1
        have y3 : wr.cell? _ = _ := (HB.out.cell (by exact hbx1)).trans HY.out.2.2.2.1
        have y4 : wr.cell? _ = _ := (HB.out.cell (by exact hbx1)).trans HY.out.2.2.2.2.1
        have y5 : wr.cell? _ = _ := (HB.out.cell (by exact hbx1)).trans HY.out.2.2.2.2.2.1
        have y6 : wr.cell? _ = _ := (HB.out.cell (by exact hbx1)).trans HY.out.2.2.2.2.2.2
        have HCH := hid (HHM.out p now wr HBB.out hp (by omega))
        have hdb := HDD.out p 0 hp (by omega)
        by_cases hlt : k < s.size
        · have HT := hid (take_snoc s k hlt)
          have hb : s[k].toNat < 256 := s[k].toNat_lt
          have HN : Hid (dvGo r D Z (s.data.toList.take (k + 1)) = if s[k] = 47 then dvHome r D ⟨C, p, now, want, S⟩ else dvStop r D ⟨C, p, now, want, S⟩ (s[k].toNat - 48)) := by
            show _ = _
            rw [HT.out, dvGo_snoc, HG.out]; rfl
          have hpb := HPB.out k hlt
          by_cases hc : s[k].toNat = 47
          · have hc8 : s[k] = 47 := UInt8.toNat_inj.1 (by rw [hc]; rfl)
            have e1 : ((s[k].toNat : Int) == 47) = true := by simp [hc]
            have HN2 : Hid (dvGo r D Z (s.data.toList.take (k + 1)) = dvHome r D ⟨C, p, now, want, S⟩) := by show _ = _; rw [HN.out, if_pos hc8]
            have HHS : Hid (homeOk r D p now = true → dvHome r D ⟨C, p, now, want, S⟩ = some ⟨C + D p 0, 0, 0, 0, S⟩) := fun h => home_some (x := ⟨C, p, now, want, S⟩) h
            have HHN : Hid (homeOk r D p now = false → dvHome r D ⟨C, p, now, want, S⟩ = none) := fun h => home_none (x := ⟨C, p, now, want, S⟩) h
            generalize D p 0 = d at *
            clear hpb hc8 hc HN
            cases hho : homeOk r D p now
            · rw [hho] at HCH
              have HX := hid (HNO.out (k + 1) (by rw [HN2.out]; exact HHN.out hho))
              clear hho HHS HHN
              go_wp2_with (first
                | (go_at_call 15; refine HCH.out.mono ?_; rintro e3 w3 ⟨rfl, hb3⟩)
                | go_in)
              go_ret3
              exact ⟨fun _ => rfl, fun C S e => (by rw [HX.out] at e; cases e), (HBW.out.trans (HBB.out.mono HBW.out.size)).trans (hb3.mono (Nat.le_trans HBW.out.size HBB.out.size))⟩
            · rw [hho] at HCH
              have HX : Hid (dvGo r D Z (s.data.toList.take (k + 1)) = some ⟨C + d, 0, 0, 0, S⟩) := by show _ = _; rw [HN2.out]; exact HHS.out hho
              clear hho HHS HHN HN2
              go_wp2_with (first
                | (go_at_call 15; refine HCH.out.mono ?_; rintro e3 w3 ⟨rfl, hb3⟩; have HB3 := hid hb3; have HO3 := hid (own_below HO.out hb3); clear hb3)
                | go_in)
              go_roundw
              case rel => exact ⟨k + 1, 0, C + d, 0, 0, S, by go_num, rfl, rfl, rfl, rfl, by omega, by omega, by omega, by omega, by omega, hSl, HX, HO3, HB.out.trans (HB3.out.mono HB.out.size)⟩
              case measure => simp [intOf]; omega
          · have hc8 : s[k] ≠ 47 := fun e => hc (by rw [e]; rfl)
            have e1 : ((s[k].toNat : Int) == 47) = false := by simp; omega
            have hdg : 49 ≤ s[k].toNat ∧ s[k].toNat - 48 ≤ r.stops.length := by
              rcases hpb with h | h
              · exact absurd h hc8
              · exact h
            obtain ⟨mm, hmm⟩ : ∃ mm, s[k].toNat = 48 + (mm + 1) := ⟨s[k].toNat - 49, by omega⟩
            have HN2 : Hid (dvGo r D Z (s.data.toList.take (k + 1)) = dvStop r D ⟨C, p, now, want, S⟩ (mm + 1)) := by show _ = _; rw [HN.out, if_neg hc8, show s[k].toNat - 48 = mm + 1 by omega]
            obtain ⟨sg, rfl, hsg, hsc⟩ : ∃ g, ast = some ⟨g, 0, none⟩ ∧ g < w1.heap.size ∧ ∀ j z, j < 5 → (r.stops.getD mm [])[j]? = some z → w1.cell? ⟨g, mm * 5 + j, none⟩ = some (.int .i64 z) := by
              obtain ⟨ao', c', e, h⟩ := HS1.out
              cases e
              obtain ⟨g, e2, h2, h3⟩ := h mm (by omega)
              exact ⟨g, e2, h2, fun j z hj hz => h3 j z hj (by rw [List.getD_eq_getElem?_getD, List.getElem?_eq_getElem (show mm < r.stops.length by omega)] at hz; exact hz)⟩
            obtain ⟨b0, b1, b2, b3, b4, hab, hsk⟩ := HOK.out.stops _ (List.getElem_mem (show mm < r.stops.length by omega))
            have hg' : r.stops.getD mm [] = [b0, b1, b2, b3, b4] := by rw [List.getD_eq_getElem?_getD, List.getElem?_eq_getElem (show mm < r.stops.length by omega), Option.getD_some, hab]
            have hV : ∀ j, stopV r (mm + 1) j = [b0, b1, b2, b3, b4].getD j 0 := fun j => by unfold stopV; rw [Nat.add_sub_cancel, hg']
            have hbb : (0 ≤ b1 ∧ b1 ≤ 10000) ∧ (0 ≤ b2 ∧ b2 ≤ 10000) ∧ (0 ≤ b3 ∧ b3 ≤ 10000) ∧ (0 ≤ b4 ∧ b4 ≤ 10000) := by
              simp only [stopOk, Bool.and_eq_true, fit_iff, decide_eq_true_eq] at hsk
              omega
            have hcl : ∀ j z, j < 5 → [b0, b1, b2, b3, b4][j]? = some z → wr.cell? ⟨sg, mm * 5 + j, none⟩ = some (.int .i64 z) := fun j z hj hz => (HB.out.cell (by exact hsg)).trans (hsc j z hj (by rw [hg']; exact hz))
            have s0 : wr.cell? ⟨sg, mm * 5, none⟩ = some (.int .i64 b0) := hcl 0 b0 (by omega) rfl
            have s1 := hcl 1 b1 (by omega) rfl
            have s2 := hcl 2 b2 (by omega) rfl
            have s3 := hcl 3 b3 (by omega) rfl
            have s4 := hcl 4 b4 (by omega) rfl
            have hsw : sg < wr.heap.size := Nat.lt_of_lt_of_le hsg HB.out.size
            obtain ⟨ao', cf, e, hn100, hsq⟩ := HQ1.out
            cases e
            obtain ⟨fg, fgi, fci, rfl, hfg, hfc, hfgi, hfr⟩ := hsq p hp
            have hd : wr.cell? ⟨fgi, mm + 1, none⟩ = _ := (HB.out.cell (by exact hfgi)).trans (hfr (mm + 1) (by omega))
            have hfw : wr.cell? ⟨fg, p, none⟩ = _ := (HB.out.cell (by exact hfg)).trans hfc
            have hgf : fg < wr.heap.size := Nat.lt_of_lt_of_le hfg HB.out.size
            have hgif : fgi < wr.heap.size := Nat.lt_of_lt_of_le hfgi HB.out.size
            have hdb2 := HDD.out p (mm + 1) hp (by omega)
            have HN3 : Hid (dvGo r D Z (s.data.toList.take (k + 1)) = if D p (mm + 1) = -1 ∨ b3 < (if now + D p (mm + 1) < b2 then b2 else now + D p (mm + 1)) ∨ r.load < want + b1 then none else some ⟨C + D p (mm + 1), mm + 1, (if now + D p (mm + 1) < b2 then b2 else now + D p (mm + 1)) + b4, want + b1, S.set mm (if now + D p (mm + 1) < b2 then b2 else now + D p (mm + 1))⟩) := by
              show _ = _
              rw [HN2.out]
              unfold dvStop dvT
              rw [hV, hV, hV, hV]; rfl
            generalize D p (mm + 1) = d at *
            have hfz := HO.out.frozenAt mm
            have hol : wr.cell? ⟨w1.heap.size, mm, none⟩ = some (.int .i64 (S.getD mm 0)) := by
              rw [HO.out.cellAt mm (by omega)]
              simp [ints, List.getD_eq_getElem?_getD, List.getElem?_eq_getElem (show mm < S.length by omega)]
            have h0w : w1.heap.size < wr.heap.size := own_cells_int HO.out
            have ip : (0 : Int) ≤ (p : Int) := by omega
            have jp : (p : Int) < (r.stops.length : Int) + 1 := by omega
            have im : (0 : Int) ≤ (mm : Int) := by omega
            have jm : (mm : Int) < (r.stops.length : Int) := by omega
            have hk48 : IntKind.i64.wrap ((s[k].toNat : Int) - 48) = mm + 1 := by rw [show (s[k].toNat : Int) - 48 = mm + 1 by omega]; exact i64_fits _ (by omega)
            have hk482 : (s[k].toNat : Int) - 48 = mm + 1 := by omega
            have hwm : IntKind.i64.wrap ((mm : Int) + 1 - 1) = mm := by rw [show (mm : Int) + 1 - 1 = mm by omega]; exact i64_fits _ (by omega)
            have hwm2 : IntKind.i64.wrap (mm : Int) = mm := i64_fits _ (by omega)
            have htm : ((mm : Int) + 1).toNat = mm + 1 := by omega
            have hmn : mm < r.stops.length := by omega
            clear hsc hab hsk hV hg' hcl hsq hfr HN HN2 hpb hc8 hc hdg hmm HCH
            by_cases hearly : now + d < b2
            · by_cases hno : d = -1
              · have HX := hid (HNO.out (k + 1) (by rw [HN3.out, if_pos hearly, if_pos (.inl hno)]))
                have e2 : (d == (-1 : Int)) = true := by simp [hno]
                clear hno
                go_wp2_with go_in
                go_ret3
                exact ⟨fun _ => rfl, fun C S e => (by rw [HX.out] at e; cases e), HBW.out.trans ((HBB.out.alloc HBB.out.size _).mono HBW.out.size)⟩
              · by_cases hlate : b3 < b2
                · have HX := hid (HNO.out (k + 1) (by rw [HN3.out, if_pos hearly, if_pos (.inr (.inl hlate))]))
                  have e2 : (d == (-1 : Int)) = false := by simpa using hno
                  have e3 : decide (b3 < b2) = true := decide_eq_true hlate
                  go_wp2_with go_in
                  go_ret3
                  exact ⟨fun _ => rfl, fun C S e => (by rw [HX.out] at e; cases e), HBW.out.trans ((HBB.out.alloc HBB.out.size _).mono HBW.out.size)⟩
                · by_cases hheavy : r.load < want + b1
                  · have HX := hid (HNO.out (k + 1) (by rw [HN3.out, if_pos hearly, if_pos (.inr (.inr hheavy))]))
                    have e2 : (d == (-1 : Int)) = false := by simpa using hno
                    have e3 : decide (b3 < b2) = false := decide_eq_false hlate
                    have e4 : decide (r.load < want + b1) = true := decide_eq_true hheavy
                    go_wp2_with go_in
                    go_ret3
                    exact ⟨fun _ => rfl, fun C S e => (by rw [HX.out] at e; cases e), HBW.out.trans ((HBB.out.alloc HBB.out.size _).mono HBW.out.size)⟩
                  · have HX : Hid (dvGo r D Z (s.data.toList.take (k + 1)) = some ⟨C + d, mm + 1, b2 + b4, want + b1, S.set mm (b2)⟩) := by
                      show _ = _
                      rw [HN3.out, if_pos hearly, if_neg]
                      intro h
                      rcases h with h | h | h
                      · exact hno h
                      · exact hlate h
                      · exact hheavy h
                    have e2 : (d == (-1 : Int)) = false := by simpa using hno
                    have e3 : decide (b3 < b2) = false := decide_eq_false hlate
                    have e4 : decide (r.load < want + b1) = false := decide_eq_false hheavy
                    have HST2 := hid (HO.out.stored mm (.int .i64 (b2))).1
                    have HBS : Hid (Below w1.heap.size w1 (wr.setCell ⟨w1.heap.size, mm, none⟩ (.int .i64 (b2)))) := HB.out.setCell (Nat.le_refl _) _
                    have HIS : Hid ((ints S).set mm (.int .i64 (b2)) = ints (S.set mm (b2))) := by show _ = _; simp [ints, List.map_set]
                    go_wp2_with go_in
                    go_roundw
                    case rel =>
                      refine ⟨k + 1, mm + 1, C + d, b2 + b4, want + b1, S.set mm (b2), by go_num, rfl, by go_num, rfl, rfl, by omega, by omega, by omega, by omega, by omega, by simp [hSl], HX, ?_, HBS.out.alloc HBS.out.size _⟩
                      show World.ownsRow _ _ _ _ _ _ _
                      rw [← HIS.out]; exact HST2.out.alloc _
                    case measure => simp [intOf]; omega
            · by_cases hno : d = -1
              · have HX := hid (HNO.out (k + 1) (by rw [HN3.out, if_neg hearly, if_pos (.inl hno)]))
                have e2 : (d == (-1 : Int)) = true := by simp [hno]
                clear hno
                go_wp2_with go_in
                go_ret3
                exact ⟨fun _ => rfl, fun C S e => (by rw [HX.out] at e; cases e), HBW.out.trans ((HBB.out.alloc HBB.out.size _).mono HBW.out.size)⟩
              · by_cases hlate : b3 < now + d
                · have HX := hid (HNO.out (k + 1) (by rw [HN3.out, if_neg hearly, if_pos (.inr (.inl hlate))]))
                  have e2 : (d == (-1 : Int)) = false := by simpa using hno
                  have e3 : decide (b3 < now + d) = true := decide_eq_true hlate
                  go_wp2_with go_in
                  go_ret3
                  exact ⟨fun _ => rfl, fun C S e => (by rw [HX.out] at e; cases e), HBW.out.trans ((HBB.out.alloc HBB.out.size _).mono HBW.out.size)⟩
                · by_cases hheavy : r.load < want + b1
                  · have HX := hid (HNO.out (k + 1) (by rw [HN3.out, if_neg hearly, if_pos (.inr (.inr hheavy))]))
                    have e2 : (d == (-1 : Int)) = false := by simpa using hno
                    have e3 : decide (b3 < now + d) = false := decide_eq_false hlate
                    have e4 : decide (r.load < want + b1) = true := decide_eq_true hheavy
                    go_wp2_with go_in
                    go_ret3
                    exact ⟨fun _ => rfl, fun C S e => (by rw [HX.out] at e; cases e), HBW.out.trans ((HBB.out.alloc HBB.out.size _).mono HBW.out.size)⟩
                  · have HX : Hid (dvGo r D Z (s.data.toList.take (k + 1)) = some ⟨C + d, mm + 1, now + d + b4, want + b1, S.set mm (now + d)⟩) := by
                      show _ = _
                      rw [HN3.out, if_neg hearly, if_neg]
                      intro h
                      rcases h with h | h | h
                      · exact hno h
                      · exact hlate h
                      · exact hheavy h
                    have e2 : (d == (-1 : Int)) = false := by simpa using hno
                    have e3 : decide (b3 < now + d) = false := decide_eq_false hlate
                    have e4 : decide (r.load < want + b1) = false := decide_eq_false hheavy
                    have HST2 := hid (HO.out.stored mm (.int .i64 (now + d))).1
                    have HBS : Hid (Below w1.heap.size w1 (wr.setCell ⟨w1.heap.size, mm, none⟩ (.int .i64 (now + d)))) := HB.out.setCell (Nat.le_refl _) _
                    have HIS : Hid ((ints S).set mm (.int .i64 (now + d)) = ints (S.set mm (now + d))) := by show _ = _; simp [ints, List.map_set]
                    go_wp2_with go_in
                    go_roundw
                    case rel =>
                      refine ⟨k + 1, mm + 1, C + d, now + d + b4, want + b1, S.set mm (now + d), by go_num, rfl, by go_num, rfl, rfl, by omega, by omega, by omega, by omega, by omega, by simp [hSl], HX, ?_, HBS.out.alloc HBS.out.size _⟩
                      show World.ownsRow _ _ _ _ _ _ _
                      rw [← HIS.out]; exact HST2.out.alloc _
                    case measure => simp [intOf]; omega
        · have hke : k = s.size := by omega
          have hall : s.data.toList.take k = s.data.toList := take_all s k (by omega)
          have HG2 : Hid (dvGo r D Z s.data.toList = some ⟨C, p, now, want, S⟩) := by have h := HG.out; rw [hall] at h; exact h
          have HV : Hid (s.toList.isEmpty = s.data.toList.isEmpty) := is_void s
          clear hall
          by_cases hz : s.size = 0
          · have hnil : s.data.toList = [] := List.length_eq_zero_iff.1 (by simpa using hz)
            have hv2 : s.toList.isEmpty = true := by rw [HV.out, hnil]; rfl
            have HX : Hid (ans = some (C, S)) := by
              have h := HG2.out
              rw [hnil] at h
              cases h
              show _ = _
              rw [HA.out, hnil]; rfl
            clear hnil hke hz
            go_wp2_with go_in
            all_goals
              go_ret3
              refine ⟨fun e => (by rw [HX.out] at e; cases e), fun C' S' e => ?_, HBW.out.trans (HBB.out.mono HBW.out.size)⟩
              rw [HX.out] at e
              cases e
              exact ⟨_, rfl, own_base HO.out (Nat.le_trans HBW.out.size HB1.out.size), hSl⟩
          · have hne : s.data.toList ≠ [] := fun e => hz (by have h6 : s.data.toList.length = s.size := by simp
                                                             rw [e] at h6; exact h6.symm)
            have hv2 : s.toList.isEmpty = false := by rw [HV.out]; simpa using hne
            have HHS : Hid (homeOk r D p now = true → ans = some (C + D p 0, S)) := fun h => by
              rw [HA.out]
              unfold drivenS
              rw [if_neg hne, HG2.out]
              simp only
              rw [home_some (x := ⟨C, p, now, want, S⟩) h]
            have HHN : Hid (homeOk r D p now = false → ans = none) := fun h => by
              rw [HA.out]
              unfold drivenS
              rw [if_neg hne, HG2.out]
              simp only
              rw [home_none (x := ⟨C, p, now, want, S⟩) h]
            generalize D p 0 = d at *
            clear hne hke hz
            cases hho : homeOk r D p now
            · rw [hho] at HCH
              have HX := hid (HHN.out hho)
              clear hho HHS HHN
              go_wp2_with (first
                | (go_at_call 15; refine HCH.out.mono ?_; rintro e3 w3 ⟨rfl, hb3⟩)
                | go_in)
              all_goals
                go_ret3
                exact ⟨fun _ => rfl, fun C S e => (by rw [HX.out] at e; cases e), (HBW.out.trans (HBB.out.mono HBW.out.size)).trans (hb3.mono (Nat.le_trans HBW.out.size HBB.out.size))⟩
            · rw [hho] at HCH
              have HX := hid (HHS.out hho)
              clear hho HHS HHN
              go_wp2_with (first
                | (go_at_call 15; refine HCH.out.mono ?_; rintro e3 w3 ⟨rfl, hb3⟩; have HB3 := hid hb3; have HO3 := hid (own_below HO.out hb3); clear hb3)
                | go_in)
              go_ret3
              refine ⟨fun e => (by rw [HX.out] at e; cases e), fun C' S' e => ?_, (HBW.out.trans (HBB.out.mono HBW.out.size)).trans (HB3.out.mono (Nat.le_trans HBW.out.size HBB.out.size))⟩
              rw [HX.out] at e
              cases e
              exact ⟨_, rfl, own_base HO3.out (Nat.le_trans HBW.out.size HB1.out.size), hSl⟩
  · have HX : Hid (drvS r D s.data.toList = none) := by show _ = _; unfold drvS; rw [if_neg (fun h => hf h.1)]
    rw [decide_eq_false hf] at HWH
    generalize drvS r D s.data.toList = ans at *
    generalize (routesS s.data.toList).length = m at *
    clear hf
    go_enter Try.func7, Try.ntmps7
    go_wp2_with (first
      | (go_at_call 13; rw [← HWQ.out]; refine HWH.out.mono ?_; rintro e1 w1 ⟨rfl, hb1⟩; have HB1 := hid hb1; have y0 : w1.cell? _ = _ := (hb1.cell (by exact hbox)).trans k0; have hbx1 : w.heap.size < w1.heap.size := Nat.lt_of_lt_of_le hbox hb1.size; clear hb1)
      | (go_at_call 14; refine (HRT.out _).mono ?_; rintro e2 w2 ⟨he2, hw2⟩; subst he2; rw [hw2]; clear hw2 w2)
      | go_in)
    go_ret3
    exact ⟨fun _ => rfl, fun C S e => (by rw [HX.out] at e; cases e), HBW.out.trans (HB1.out.mono HBW.out.size)⟩
end Go.Proofs.Ytebinaopncclgab
