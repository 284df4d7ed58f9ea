/- Walks: what the tree is to show is taken in. -/
import Derived.Test.YtebinaopncclgabGreatDoorGNodes
namespace Go.Proofs.YtebinaopncclgabGreatDoor
open Go.RowKit Go.IntWalk

/- one of the cells behind the place is written -/
def exPut (ex : Nat → Option Value) (k : Nat) (u : Value) (j : Nat) : Option Value := if j = k then some u else ex j
theorem walk_putk {w0 w : World} {p k : Nat} {r : Rd} {ex : Nat → Option Value} {P : PathT} {vs vf vf2 u0 : Value} (hw : WalkG w0 w p r ex P vs vf vf2) (hk : 75 ≤ k) (h0 : ex k = some u0) (u : Value) :
    WalkG w0 (w.setCell ⟨p, k, none⟩ u) p r (exPut ex k u) P vs vf vf2 := by
  obtain ⟨cs, ty, hbox⟩ := hw.arcs.box
  have hs1 := heap_setCell_same w p k _ _ u hbox
  have hkk : ∀ j, j ≠ k → (w.setCell ⟨p, k, none⟩ u).cell? ⟨p, j, none⟩ = w.cell? ⟨p, j, none⟩ := fun j h1 => by
    rw [World.cell?_setCell_other _ _ _ _ (by intro h; simp only [Addr.mk.injEq] at h; omega)]
  have hks : k < cs.size := by
    have h1 := hw.rest k _ hk h0
    rw [cell_of_row w p k _ _ _ hbox] at h1
    exact (Array.getElem?_eq_some_iff.1 h1).1
  obtain ⟨va, g1, g2⟩ := hw.above
  refine ⟨hw.size, hw.below.setCell (Nat.le_refl _) _, (hkk 0 (by omega)).trans hw.c0, (hkk 1 (by omega)).trans hw.c1, (hkk 2 (by omega)).trans hw.c2, (hkk 5 (by omega)).trans hw.c5, (hkk 7 (by omega)).trans hw.c7, ⟨⟨_, _, hs1⟩, (hkk 8 (by omega)).trans hw.arcs.c0, (hkk 9 (by omega)).trans hw.arcs.c1, fun a b ha hb => (hkk _ (by omega)).trans (hw.arcs.said a b ha hb)⟩, ⟨va, (hkk 74 (by omega)).trans g1, ?_⟩, fun j v hj hv => ?_⟩
  · have hne : va.ownBlock ≠ some p := fun h => by have := (g2.lt p h).1; omega
    exact ownsRow_setCell_other g2 hne _
  · unfold exPut at hv
    by_cases e : j = k
    · subst e
      rw [if_pos rfl] at hv
      cases hv
      rw [cell_of_row _ p j _ _ _ hs1]
      simp [hks]
    · rw [if_neg e] at hv
      rw [hkk j e]; exact hw.rest j v hj hv
theorem walk_ex {w0 w : World} {p : Nat} {r : Rd} {ex ex' : Nat → Option Value} {P : PathT} {vs vf vf2 : Value} (hw : WalkG w0 w p r ex P vs vf vf2) (h : ∀ k u, ex' k = some u → ex k = some u) : WalkG w0 w p r ex' P vs vf vf2 :=
  ⟨hw.size, hw.below, hw.c0, hw.c1, hw.c2, hw.c5, hw.c7, hw.arcs, hw.above, fun k u h1 h2 => hw.rest k u h1 (h k u h2)⟩
theorem walk_put {w0 w : World} {p : Nat} {r : Rd} {cl : Option Int} {P : PathT} {vs vf vf2 : Value} (hw : WalkAt w0 w p r cl P vs vf vf2) (c : Int) :
    WalkAt w0 ((w.setCell ⟨p, 75, none⟩ (.bool true)).setCell ⟨p, 76, none⟩ (.int .i64 c)) p r (some c) P vs vf vf2 := by
  refine walk_ex (walk_putk (walk_putk hw (k := 75) (by omega) rfl (.bool true)) (k := 76) (by omega) rfl (.int .i64 c)) (fun k u h => ?_)
  unfold exW at h
  unfold exPut
  by_cases e1 : k = 75
  · rw [if_pos e1] at h; rw [if_neg (by omega), if_pos e1]; exact h
  · rw [if_neg e1] at h
    by_cases e2 : k = 76
    · rw [if_pos e2] at h; rw [if_pos e2]; exact h
    · rw [if_neg e2] at h; cases h

set_option maxRecDepth 100000 in
set_option maxHeartbeats 4000000 in
theorem take_any (w0 w : World) (p : Nat) (r : Rd) (t : ByteArray) (vs vf vf2 : Value) (hok : RdOk r) (ht : t.size ≤ maxLen) (hw : WalkAt w0 w p r none [] vs vf vf2) (hs : StR w0 vs r) (hq : SqR w0 vf (r.stops.length + 1) (siteD r)) :
    Calls Tryz.prog 152 #[.pointer (some ⟨p, 0, none⟩), .string t] w fun e w' => e = .returned (.int .i64 (claimS r t.data.toList).2) ∧ ((claimS r t.data.toList).2 = 0 → WalkAt w0 w' p r (claimS r t.data.toList).1 [] vs vf vf2) ∧ Below p w0 w' := by
  have HJ := hid (ajudge_any p r (siteD r) t vs vf w ht hok (hw.area hs hq) (site_range hok))
  have hpl := hw.arcs.lt
  have HW := hid hw
  by_cases hn : t.data.toList = noneB
  · have HC : Hid (claimS r t.data.toList = (none, 0)) := by show _ = _; unfold claimS; rw [if_pos hn]
    have htt : t = ⟨#[110, 111, 110, 101]⟩ := by
      apply ByteArray.ext
      apply Array.toList_inj.1
      rw [hn]; rfl
    rw [HC.out]
    subst htt
    clear hw hn HJ
    go_enter Tryz.func152, Tryz.ntmps152
    go_wp2_with fail
    go_ret
    exact ⟨rfl, HW.out, HW.out.below⟩
  · have z2 : (t.toList == [110, 111, 110, 101]) = false := by rw [tn_list]; exact beq_eq_false_iff_ne.2 hn
    have HC : Hid (claimS r t.data.toList = if (judgeS r (siteD r) t.data.toList).2.2 ≠ 0 then (none, (judgeS r (siteD r) t.data.toList).2.2) else (some (judgeS r (siteD r) t.data.toList).1, 0)) := by show _ = _; unfold claimS; rw [if_neg hn]
    have HVS : Hid (∀ e w', JudgeLeft w r.stops.length (judgeS r (siteD r) t.data.toList) e w' → ∃ ao n c, e = .returned (.tuple #[.int .i64 (judgeS r (siteD r) t.data.toList).1, .slice ao n c, .int .i64 (judgeS r (siteD r) t.data.toList).2.2]) ∧ Below w.heap.size w w') := fun e w' hj => by
      obtain ⟨v, he, h1, h2, h3⟩ := hj
      cases hx : (judgeS r (siteD r) t.data.toList).2.1 with
      | none => exact ⟨none, 0, 0, by rw [he, h1 hx], h3⟩
      | some S =>
        obtain ⟨ao, c, hv, _, _⟩ := own_val (h2 S hx).1
        exact ⟨ao, _, c, by rw [he, hv], h3⟩
    generalize judgeS r (siteD r) t.data.toList = x at *
    obtain ⟨x1, x2, x3⟩ := x
    dsimp only at HC HVS
    generalize claimS r t.data.toList = cl at *
    by_cases h3 : x3 = 0
    · subst h3
      rw [if_neg (by simp)] at HC
      rw [HC.out]
      clear hw hn HC
      go_enter Tryz.func152, Tryz.ntmps152
      go_wp2_with fail
      refine HJ.out.mono ?_
      intro e1 w1 hj
      obtain ⟨ao, n, c, rfl, hb1⟩ := HVS.out e1 w1 hj
      have HW1 := hid (HW.out.mv hb1)
      have f75 := HW1.out.arcs.frozen 75
      have f76 := HW1.out.arcs.frozen 76
      have c75 := HW1.out.c75
      have c76 := HW1.out.c76
      have hpl1 := HW1.out.arcs.lt
      clear hj hb1 HJ HVS HW hpl
      go_wp2_with fail
      go_ret
      exact ⟨rfl, fun _ => walk_put HW1.out x1, (walk_put HW1.out x1).below⟩
    · rw [if_pos h3] at HC
      rw [HC.out]
      have b3 : (x3 != 0) = true := by simpa using h3
      have H3 := hid h3
      clear hw hn HC h3
      go_enter Tryz.func152, Tryz.ntmps152
      go_wp2_with fail
      refine HJ.out.mono ?_
      intro e1 w1 hj
      obtain ⟨ao, n, c, rfl, hb1⟩ := HVS.out e1 w1 hj
      have HW1 := hid (HW.out.mv hb1)
      clear hj hb1 HJ HVS HW hpl
      go_wp2_with fail
      go_ret
      exact ⟨rfl, fun h => absurd h H3.out, HW1.out.below⟩
end Go.Proofs.YtebinaopncclgabGreatDoor
