/- Walks: the ways between the sites of an instance that may be. -/
import Derived.Test.YtebinaopncclgaaTabl
import Derived.Test.YtebinaopncclgaaNetJ
import Derived.Test.YtebinaopncclgaaFault
namespace Go.Proofs.Ytebinaopncclgaa
open Go.RowKit Go.IntWalk

def roadF (F : Nat → Nat → Int) (s : List Int) : Nat → Nat → Int := upd F (s.getD 0 0).toNat (s.getD 1 0).toNat (shortS (F (s.getD 0 0).toNat (s.getD 1 0).toNat) (s.getD 2 0))
def roadsF (rs : List (List Int)) : Nat → Nat → Int := rs.foldl roadF diagS
def wayF (r : Rd) : Nat → Nat → Int := fwF (roadsF r.roads) r.nodes.toNat
def siteN (r : Rd) (i : Nat) : Nat := ((sites r).getD i 0).toNat

def netZ : Array Value := Array.replicate 145 (.int .i64 0)
theorem zero_net (W : World) : (zeroValue 97).run Try.prog W = .ok (.agg netZ) W := by kernel_rfl
theorem netZ_ne : ¬ netZ = #[] := by
  intro h; have := congrArg Array.size h; simp [netZ] at this
theorem netZ_at {o : Nat} (h : o < 145) : netZ[o]? = some (.int .i64 0) := by simp [netZ, h]

theorem net_new {w : World} {N : Nat} (hN : N ≤ 12) {x : Int} (hx : x = N) : NetAt (w.alloc (.cells (netZ.setIfInBounds 0 (.int .i64 x)) 97)) w.heap.size N (fun _ _ => 0) := by
  have hh := heap_alloc_new w (.cells (netZ.setIfInBounds 0 (.int .i64 x)) 97)
  refine ⟨⟨_, hh⟩, ?_, hN, fun a b ha hb => ?_⟩
  · rw [cell_of_row _ _ 0 _ _ _ hh, hx]; simp [netZ]
  · rw [cell_of_row _ _ (1 + a * 12 + b) _ _ _ hh, Array.getElem?_setIfInBounds, if_neg (by omega)]; exact netZ_at (by omega)
theorem diag_lens (N : Nat) : Lens N 10000 diagS := by
  refine ⟨fun x _ => by simp [diagS], fun x y _ _ => ?_⟩
  unfold diagS; split <;> omega
theorem road_lens {N : Nat} {F : Nat → Nat → Int} {a b c : Int} (h : Lens N 10000 F) (ha : 0 ≤ a ∧ a < N) (hb : 0 ≤ b ∧ b < N) (hc : 0 ≤ c ∧ c ≤ 10000) : Lens N 10000 (roadF F [a, b, c]) := by
  have e : ∀ x y, roadF F [a, b, c] x y = if x = a.toNat ∧ y = b.toNat then shortS (F a.toNat b.toNat) c else F x y := fun x y => rfl
  have hab := h.2 a.toNat b.toNat (by omega) (by omega)
  refine ⟨fun x hx => ?_, fun x y hx hy => ?_⟩
  · rw [e]; split
    · rename_i q
      have q1 := q.1; have q2 := q.2
      have h0 := h.1 x hx
      rw [← q1, ← q2, h0]; exact shortS_self (by omega) (by omega)
    · exact h.1 x hx
  · rw [e]; split
    · unfold shortS; split <;> omega
    · exact h.2 x y hx hy
theorem roads_lens {N : Nat} (rs : List (List Int)) (hrs : ∀ s ∈ rs, ∃ a b c, s = [a, b, c] ∧ roadOk a b c (N : Int) = true) : ∀ F, Lens N 10000 F → Lens N 10000 (rs.foldl roadF F) := by
  induction rs with
  | nil => intro F h; exact h
  | cons s t ih =>
    intro F h
    obtain ⟨a, b, c, rfl, hk⟩ := hrs s (by simp)
    have hk := roadOk_iff.1 hk
    exact ih (fun s hs => hrs s (by simp [hs])) _ (road_lens h ⟨by omega, by omega⟩ ⟨by omega, by omega⟩ ⟨by omega, by omega⟩)
theorem roadsF_snoc {rs : List (List Int)} {k : Nat} (h : k < rs.length) : roadsF (rs.take (k + 1)) = roadF (roadsF (rs.take k)) rs[k] := by
  unfold roadsF; rw [List.take_succ_eq_append_getElem h, List.foldl_append]; rfl
theorem sites_range {r : Rd} (h : ∀ z ∈ sites r, 0 ≤ z) : sites r = (List.range (r.stops.length + 1)).map fun i => (siteN r i : Int) := by
  apply List.ext_getElem
  · simp [sites_length]
  · intro i h1 h2
    simp only [List.getElem_map, List.getElem_range, siteN]
    rw [show (sites r).getD i 0 = (sites r)[i] by simp [h1]]
    have := h _ (List.getElem_mem h1); omega
theorem sites_ok {r : Rd} (h : RdOk r) : ∀ z ∈ sites r, 0 ≤ z ∧ z < r.nodes := by
  have hh := headOk_iff.1 h.head
  intro z hz
  simp only [sites, List.mem_cons, List.mem_map] at hz
  rcases hz with rfl | ⟨s, hs, rfl⟩
  · omega
  · obtain ⟨a, b, c, d, e, rfl, hk⟩ := h.stops s hs
    have hk := stopOk_iff.1 hk
    simp; omega
theorem siteN_lt {r : Rd} (h : RdOk r) {N : Nat} (hN : r.nodes = N) {i : Nat} (hi : i < r.stops.length + 1) : siteN r i < N := by
  have hl : i < (sites r).length := by rw [sites_length]; exact hi
  have := sites_ok h _ (List.getElem_mem hl)
  unfold siteN; rw [show (sites r).getD i 0 = (sites r)[i] by simp [hl]]; omega

set_option maxRecDepth 100000 in
set_option maxHeartbeats 2000000 in
theorem between_own (B B' : Nat) (r : Rd) (vs vr : Value) (w : World) (hn : RdOk r) (hs : w.ownsRow B 60 5 vs r.stops.length (ints r.stops.flatten)) (hr : w.ownsRow B' 35 3 vr r.roads.length (ints r.roads.flatten)) :
    Calls Try.prog 26 #[inst r vs vr] w fun e w' => ∃ v, e = .returned v ∧ GridO w' w.heap.size v (r.stops.length + 1) (fun i j => wayF r (siteN r i) (siteN r j)) ∧ Below w.heap.size w w' := by
  have hns := hn.nstops
  have hnr := hn.nroads
  have hhd := headOk_iff.1 hn.head
  obtain ⟨aos, caps, rfl, has, hsn⟩ := own_val hs
  obtain ⟨aor, capr, rfl, har, hrn⟩ := own_val hr
  have HS := hide hs
  have HR := hide hr
  have HN := hide hn
  have HAS := hide has
  have HAR := hide har
  have HSN := hide hsn
  have HRN := hide hrn
  have hcF := fun W hW => fault_ok B B' r (.slice aos r.stops.length caps) (.slice aor r.roads.length capr) W hn (own_below hs hW) (own_below hr hW)
  have HCF := hide hcF
  clear hs hr hn has hsn har hrn hcF
  unfold inst at *
  go_enter Try.func26, Try.ntmps26
  go_wp2_with fail
  refine (HCF.out _ (below1 w _)).mono ?_
  rintro e1 w1 ⟨rfl, hb1⟩
  obtain ⟨hw1, hz1, hbox⟩ := box_facts (w := w) hb1 rfl rfl rfl rfl
  have HW1 := hide hw1
  have HBX := hide hbox
  have d3 : w1.cell? ⟨w.heap.size, 3, none⟩ = some (.int .i64 r.nodes) := hbox 3
  clear hw1 hb1 hbox
  have hzv := zero_net
  have hzn := netZ_ne
  obtain ⟨N, hN⟩ : ∃ N : Nat, r.nodes = N := ⟨r.nodes.toNat, by omega⟩
  have hN12 : N ≤ 12 := by omega
  have HNN := hide hN
  clear hN
  go_wp2_with fail
  refine (clear_any _ N _ _ (net_new hN12 HNN.out)).mono ?_
  rintro e2 w2 ⟨rfl, hn2, ho2⟩
  have HB2 : Hid (Below w1.heap.size w1 w2) := (below1 w1 _).trans (ho2.below (Nat.le_refl _))
  have HN2 := hide hn2
  clear hn2 ho2 d3 hzv hzn
  go_wp2_with fail
  go_loopw [5] (fun i wr => ∃ k : Nat, i = .int .i64 k ∧ k ≤ r.roads.length ∧ Hid (NetAt wr w1.heap.size N (roadsF (r.roads.take k))) ∧ Hid (Below w1.heap.size w1 wr)) (fun i _ => r.roads.length - (intOf i).toNat)
  case atStart => exact ⟨0, rfl, by omega, HN2, HB2⟩
  case round =>
    clear HN2 HB2
    obtain ⟨k, rfl, hk, HI, HB⟩ := hrel
    have hbs := HB.out.size
    have d6 : wr.cell? ⟨w.heap.size, 6, none⟩ = some (.slice aor r.roads.length capr) := (HB.out.cell (by exact hz1)).trans (HBX.out 6)
    have hnl := net_lt HI.out
    by_cases hlt : k < r.roads.length
    · obtain ⟨g, rfl, hgl⟩ := some_of HAR.out HRN.out (by omega)
      obtain ⟨a, b, c, hab, hok⟩ := HN.out.roads _ (List.getElem_mem hlt)
      have hok' := roadOk_iff.1 hok
      have hcl : ∀ j z, j < 3 → r.roads[k][j]? = some z → wr.cell? ⟨g, k * 3 + j, none⟩ = some (.int .i64 z) := by
        intro j z hj hz
        rw [HB.out.cell (p := ⟨g, k * 3 + j, none⟩) (by show g < _; omega), HW1.out.cell (by exact hgl), HR.out.cellAt (k * 3 + j) (by omega)]
        exact flat_ints (fun s hs => (HN.out.nice.roads s hs).1) hlt hj hz
      have HT := roadsF_snoc hlt
      rw [hab] at hcl HT
      obtain ⟨an, rfl⟩ := Int.eq_ofNat_of_zero_le hok'.1.1
      obtain ⟨bn, rfl⟩ := Int.eq_ofNat_of_zero_le hok'.1.2.2.1
      have hnn := HNN.out
      have han : an < N := by omega
      have hbn : bn < N := by omega
      have x0 : wr.cell? ⟨g, k * 3, none⟩ = some (.int .i64 an) := hcl 0 an (by omega) rfl
      have x1 : wr.cell? ⟨g, k * 3 + 1, none⟩ = some (.int .i64 bn) := hcl 1 bn (by omega) rfl
      have x2 : wr.cell? ⟨g, k * 3 + 2, none⟩ = some (.int .i64 c) := hcl 2 c (by omega) rfl
      have HT' := hide HT
      clear hcl hab hok hok' HT hnn
      have hgw : g < wr.heap.size := by omega
      go_wp2_with fail
      refine (shorten_any w1.heap.size N an bn (roadsF (r.roads.take k)) c _ (net_other HI.out (Below.heap_alloc _ _ _ hnl)) han hbn).mono ?_
      rintro e3 w3 ⟨rfl, hn3, ho3⟩
      have HN3 : Hid (NetAt w3 w1.heap.size N (roadsF (r.roads.take (k + 1)))) := by show NetAt _ _ _ _; rw [HT'.out]; exact hn3
      have HB3 : Hid (Below w1.heap.size w1 w3) := (HB.out.alloc hbs _).trans (ho3.below (Nat.le_refl _))
      clear hn3 ho3 x0 x1 x2 d6
      go_wp2
      go_roundw
      case rel => exact ⟨k + 1, by go_num, by omega, HN3, HB3⟩
      case measure => simp [intOf]; omega
    · have hke : k = r.roads.length := by omega
      subst hke
      have HI' : Hid (NetAt wr w1.heap.size N (roadsF r.roads)) := by have := HI.out; rw [List.take_length] at this; exact this
      have HLen : Hid (Lens N 10000 (roadsF r.roads)) := roads_lens r.roads (by rw [← HNN.out]; exact HN.out.roads) _ (diag_lens N)
      go_wp2_with fail
      refine (join_any w1.heap.size N (roadsF r.roads) _ HI'.out HLen.out).mono ?_
      rintro e4 w4 ⟨rfl, hn4, ho4⟩
      have HB4 : Hid (Below w1.heap.size w1 w4) := HB.out.trans (ho4.below (Nat.le_refl _))
      have HN4 := hide hn4
      have hb4 := HB4.out.size
      have f0 : w4.cell? ⟨w.heap.size, 0, none⟩ = some (.int .i64 r.vans) := (HB4.out.cell (by exact hz1)).trans (HBX.out 0)
      have f1 : w4.cell? ⟨w.heap.size, 1, none⟩ = some (.int .i64 r.load) := (HB4.out.cell (by exact hz1)).trans (HBX.out 1)
      have f2 : w4.cell? ⟨w.heap.size, 2, none⟩ = some (.int .i64 r.close) := (HB4.out.cell (by exact hz1)).trans (HBX.out 2)
      have f3 : w4.cell? ⟨w.heap.size, 3, none⟩ = some (.int .i64 r.nodes) := (HB4.out.cell (by exact hz1)).trans (HBX.out 3)
      have f4 : w4.cell? ⟨w.heap.size, 4, none⟩ = some (.int .i64 r.home) := (HB4.out.cell (by exact hz1)).trans (HBX.out 4)
      have f5 : w4.cell? ⟨w.heap.size, 5, none⟩ = some (.slice aos r.stops.length caps) := (HB4.out.cell (by exact hz1)).trans (HBX.out 5)
      have f6 : w4.cell? ⟨w.heap.size, 6, none⟩ = some (.slice aor r.roads.length capr) := (HB4.out.cell (by exact hz1)).trans (HBX.out 6)
      have HWW : Hid (Below w.heap.size w w4) := HW1.out.trans (HB4.out.mono (by omega))
      clear hn4 ho4 HI HB hbs d6 HI'
      go_wp2_with fail
      refine (siteNodes_any B B' r (.slice aos r.stops.length caps) (.slice aor r.roads.length capr) w4 HN.out.nice (own_below HS.out HWW.out) (own_below HR.out HWW.out)).mono ?_
      rintro e5 w5 ⟨v5, rfl, ho5, hb5⟩
      obtain ⟨g5, c5, cur5, rfl, _, _, _⟩ := own_shape ho5 (by omega)
      have hss := ho5
      rw [sites_range (fun z hz => (sites_ok HN.out z hz).1)] at hss
      have HSS := hide hss
      have HN5 : Hid (NetAt w5 w1.heap.size N (fwF (roadsF r.roads) N)) := net_other HN4.out (hb5.block _ (net_lt HN4.out))
      have HW5 : Hid (Below w.heap.size w w5) := HWW.out.trans (hb5.mono HWW.out.size)
      clear ho5 hb5 hss f0 f1 f2 f3 f4 f5 f6
      go_wp2_with fail
      refine (table_own w1.heap.size N (r.stops.length + 1) g5 c5 _ (fwF (roadsF r.roads) N) (siteN r) w5 HN5.out (by omega) (by omega) (fun i hi => siteN_lt HN.out HNN.out hi) HSS.out).mono ?_
      rintro e6 w6 ⟨v6, rfl, hg6, hb6⟩
      have HG6 := hide hg6
      have HB6 := hide hb6
      obtain ⟨g7, _, rfl, _⟩ := hg6
      clear hb6
      go_wp2
      go_ret
      refine ⟨_, rfl, ?_, HW5.out.trans (HB6.out.mono HW5.out.size)⟩
      have e : wayF r = fwF (roadsF r.roads) N := by unfold wayF; rw [HNN.out]; rfl
      rw [e]; exact HG6.out.base HW5.out.size
theorem between_any (B B' : Nat) (r : Rd) (vs vr : Value) (w : World) (hn : RdOk r) (hs : w.ownsRow B 60 5 vs r.stops.length (ints r.stops.flatten)) (hr : w.ownsRow B' 35 3 vr r.roads.length (ints r.roads.flatten)) :
    Calls Try.prog 26 #[inst r vs vr] w fun e w' => ∃ v, e = .returned v ∧ Grid w' w.heap.size v (r.stops.length + 1) (fun i j => wayF r (siteN r i) (siteN r j)) ∧ Below w.heap.size w w' :=
  (between_own B B' r vs vr w hn hs hr).mono fun _ _ ⟨v, h1, h2, h3⟩ => ⟨v, h1, h2.grid, h3⟩
end Go.Proofs.Ytebinaopncclgaa
