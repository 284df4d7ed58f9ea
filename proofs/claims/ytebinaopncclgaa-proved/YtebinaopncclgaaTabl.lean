/- Walks: the table of ways. -/
import Derived.Test.YtebinaopncclgaaTable
namespace Go.Proofs.Ytebinaopncclgaa
open Go.RowKit Go.IntWalk

theorem own_cells_int {w : World} {B g n c : Nat} {e : TypeId} {xs : List Value} (h : w.ownsRow B e 1 (.slice (some ⟨g, 0, none⟩) n c) n xs) : g < w.heap.size := by
  rcases h.2 with ⟨h0, _⟩ | ⟨g', cap, cur, hv, _, hg, _⟩
  · cases h0
  · cases hv; exact (Array.getElem?_eq_some_iff.1 hg).1
theorem rowTo_at {D : Nat → Int} {n k : Nat} (h : k < n) : (rowTo D n k)[k]? = some (.int .i64 0) := by simp [rowTo, h]
theorem rowsTo_at {G : Nat → Nat} {n k : Nat} (h : k < n) : (rowsTo G n k)[k]? = some (.slice none 0 0) := by simp [rowsTo, h]

theorem cell_aside (w : World) {b o p q : Nat} (u : Value) (h : ¬ b = p) : (w.setCell ⟨p, q, none⟩ u).cell? ⟨b, o, none⟩ = w.cell? ⟨b, o, none⟩ :=
  World.cell?_of_block (a := ⟨b, o, none⟩) (Below.heap_setCell _ _ _ _ (by exact h))

set_option maxRecDepth 100000 in
set_option maxHeartbeats 2000000 in
theorem table_own (nb N n g0 c0 Bs : Nat) (F : Nat → Nat → Int) (S : Nat → Nat) (w : World) (h : NetAt w nb N F) (hn1 : 1 ≤ n) (hn : n ≤ 8) (hS : ∀ i, i < n → S i < N)
    (hs : w.ownsRow Bs 3 1 (.slice (some ⟨g0, 0, none⟩) n c0) n (ints ((List.range n).map fun i => (S i : Int)))) :
    Calls Try.prog 46 #[.pointer (some ⟨nb, 0, none⟩), .slice (some ⟨g0, 0, none⟩) n c0] w fun e w' => ∃ v, e = .returned v ∧ GridO w' w.heap.size v n (fun i j => F (S i) (S j)) ∧ Below w.heap.size w w' := by
  obtain ⟨i0, hi, hz0, hz1, hz2⟩ := info_parts Try.infoInt
  obtain ⟨j0, hj, hy0, hy1, hy2⟩ := info_parts Try.infoInts
  have hN := h.2.2.1
  have HN := hide' h
  have HSS := hide' hS
  have hg0 := own_cells_int hs
  have hnb := net_lt h
  have HSC : Hid (∀ i, i < n → w.cell? ⟨g0, i, none⟩ = some (.int .i64 (S i))) := fun i hi => by
    rw [hs.cellAt i (by omega)]; simp [ints, hi]
  clear h hS hs
  go_enter Try.func46, Try.ntmps46
  go_wp2_with (first
    | (at_make; refine wpList_make_full _ rfl _ _ 28 rfl w.heap.size 37 j0 (.slice none 0 0) 1 Try.underlying28 hj hy0 hy1 .i64 .i64 _ _ n rfl rfl ?m1 ?m2 ?m3 ?m4 ?m5 ?_)
    | fail)
  case m1 => rfl
  case m2 => rfl
  case m3 => rw [hy2]; omega
  case m4 => unfold maxLen; omega
  case m5 => exact Nat.le_refl _
  intro w1 hown1 hgrow1
  have HB1 : Hid (Below w.heap.size w w1) := (Below.refl _ _).grown hgrow1 (Nat.le_refl _) (by simp)
  have HO1 : Hid (w1.ownsRow w.heap.size 37 1 (.slice (some ⟨w.heap.size, 0, none⟩) n n) n (rowsTo (fun _ => 0) n 0)) := by
    show World.ownsRow _ _ _ _ _ _ _
    have e : (madeCells #[Value.slice none 0 0] n).toList = rowsTo (fun _ => 0) n 0 := by rw [toList_madeCells_one, rowsTo_zero]
    rw [← e]; simpa using hown1
  clear hown1 hgrow1
  go_wp2
  go_loopw [6, 7, 8] (fun i _ _ wr => ∃ (k : Nat) (G : Nat → Nat), i = .int .i64 k ∧ k ≤ n ∧ Hid (wr.ownsRow w.heap.size 37 1 (.slice (some ⟨w.heap.size, 0, none⟩) n n) n (rowsTo G n k)) ∧
      Hid (∀ i, i < k → w.heap.size < G i ∧ (∃ ci, wr.heap[G i]? = some (.cells ci 3 (0, 0)) ∧ ci.size = n ∧ ∀ j, j < n → ci[j]? = some (.int .i64 (F (S i) (S j)))) ∧ ∀ i', i' < i → G i' < G i) ∧ Hid (Below w.heap.size w wr)) (fun i _ _ _ => n - (intOf i).toNat)
  case atStart => exact ⟨0, fun _ => 0, rfl, by omega, HO1, fun i hi => by omega, HB1⟩
  case round =>
    clear HO1 HB1
    obtain ⟨k, G, rfl, hk, HO, HG, HB⟩ := hrel
    obtain ⟨wo, rfl⟩ : ∃ wo, wo = wr := ⟨_, rfl⟩
    have hbz := HB.out.size
    have hrz := own_cells_int HO.out
    by_cases hlt : k < n
    · go_wp2_with (first
        | (at_make; refine wpList_make_full _ rfl _ _ 37 rfl wo.heap.size 3 i0 (.int .i64 0) 1 Try.underlying37 hi hz0 hz1 .i64 .i64 _ _ n rfl rfl ?q1 ?q2 ?q3 ?q4 ?q5 ?_)
        | fail)
      case q1 => rfl
      case q2 => rfl
      case q3 => rw [hz2]; omega
      case q4 => unfold maxLen; omega
      case q5 => exact Nat.le_refl _
      intro w2 hown2 hgrow2
      have HB2 : Hid (Below wo.heap.size wo w2) := (Below.refl _ _).grown hgrow2 (Nat.le_refl _) (by simp)
      have HO2 : Hid (w2.ownsRow wo.heap.size 3 1 (.slice (some ⟨wo.heap.size, 0, none⟩) n n) n (rowTo (fun j => F (S k) (S j)) n 0)) := by
        show World.ownsRow _ _ _ _ _ _ _
        have e : (madeCells #[Value.int .i64 0] n).toList = rowTo (fun j => F (S k) (S j)) n 0 := by rw [toList_madeCells_one, rowTo_zero]
        rw [← e]; simpa using hown2
      clear hown2 hgrow2
      go_wp2
      go_loopw [8] (fun j wr => ∃ q : Nat, j = .int .i64 q ∧ q ≤ n ∧ Hid (wr.ownsRow wo.heap.size 3 1 (.slice (some ⟨wo.heap.size, 0, none⟩) n n) n (rowTo (fun j => F (S k) (S j)) n q)) ∧ Hid (Below wo.heap.size wo wr)) (fun j _ => n - (intOf j).toNat)
      case atStart => exact ⟨0, rfl, by omega, HO2, HB2⟩
      case round =>
        clear HO2 HB2
        obtain ⟨q, rfl, hq, HQ, HB2⟩ := hrel
        have hb2 := HB2.out.size
        by_cases hlq : q < n
        · have sk := HSS.out k hlt
          have sq := HSS.out q hlq
          have s1 : wr.cell? ⟨g0, k, none⟩ = some (.int .i64 (S k)) := ((HB2.out.cell (p := ⟨g0, k, none⟩) (by show g0 < _; omega)).trans (HB.out.cell (p := ⟨g0, k, none⟩) hg0)).trans (HSC.out k hlt)
          have s2 : wr.cell? ⟨g0, q, none⟩ = some (.int .i64 (S q)) := ((HB2.out.cell (p := ⟨g0, q, none⟩) (by show g0 < _; omega)).trans (HB.out.cell (p := ⟨g0, q, none⟩) hg0)).trans (HSC.out q hlq)
          have s3 : wr.cell? ⟨nb, 1 + S k * 12 + S q, none⟩ = some (.int .i64 (F (S k) (S q))) := ((HB2.out.cell (p := ⟨nb, 1 + S k * 12 + S q, none⟩) (by show nb < _; omega)).trans (HB.out.cell (p := ⟨nb, 1 + S k * 12 + S q, none⟩) hnb)).trans (HN.out.2.2.2 _ _ sk sq)
          have s4 : wr.cell? ⟨wo.heap.size, q, none⟩ = some (.int .i64 0) := by rw [HQ.out.cellAt q (by omega)]; exact rowTo_at hlq
          have s5 := HQ.out.frozenAt q
          have HST := hide' (HQ.out.stored q (.int .i64 (F (S k) (S q)))).1
          have ik : (0 : Int) ≤ (k : Int) := by omega
          have iq : (0 : Int) ≤ (q : Int) := by omega
          have jk : (k : Int) < (n : Int) := by omega
          have jq : (q : Int) < (n : Int) := by omega
          have k1 : (S k : Int) < 12 := by omega
          have k2 : (S q : Int) < 12 := by omega
          have hne1 : ¬ nb = wo.heap.size := by omega
          have hne2 : ¬ g0 = wo.heap.size := by omega
          generalize hf : F (S k) (S q) = f at *
          have HF := hide' hf
          clear hf
          generalize hsk : S k = sK at *
          generalize hsq : S q = sQ at *
          have HK := hide' hsk
          have HQ' := hide' hsq
          clear hsk hsq
          have t1 := (cell_aside wr (b := g0) (o := k) (p := wo.heap.size) (q := q) (.int .i64 f) hne2).trans s1
          have t2 := (cell_aside wr (b := g0) (o := q) (p := wo.heap.size) (q := q) (.int .i64 f) hne2).trans s2
          have t3 := (cell_aside wr (b := nb) (o := 1 + sK * 12 + sQ) (p := wo.heap.size) (q := q) (.int .i64 f) hne1).trans s3
          go_wp2_with fail
          go_region_held3 (fun w' => w'.cell? ⟨g0, k, none⟩ = some (.int .i64 sK) ∧ w'.cell? ⟨g0, q, none⟩ = some (.int .i64 sQ) ∧ w'.cell? ⟨nb, 1 + sK * 12 + sQ, none⟩ = some (.int .i64 f)) (go_keep) (fail)
          clear t1 t2 t3 s1 s2 s3 s4 s5
          go_wp2
          go_roundw
          case rel =>
            refine ⟨q + 1, by go_num, by omega, ?_, ?_⟩
            · show World.ownsRow _ _ _ _ _ _ _
              rw [← rowTo_set hlq]
              have e : F sK (S q) = f := by rw [HQ'.out]; exact HF.out
              rw [e]
              exact own_heap HST.out rfl
            · exact (HB2.out.setCell (by exact Nat.le_refl _) _).drew
          case measure => simp [intOf]; omega
        · have hqe : q = n := by omega
          subst hqe
          have r1 : wr.cell? ⟨w.heap.size, k, none⟩ = some (.slice none 0 0) := by
            rw [HB2.out.cell (p := ⟨w.heap.size, k, none⟩) (by exact hrz), HO.out.cellAt k (by omega)]; exact rowsTo_at hlt
          have HOw : Hid (wr.ownsRow w.heap.size 37 1 (.slice (some ⟨w.heap.size, 0, none⟩) q q) q (rowsTo G q k)) := own_below HO.out HB2.out
          have r2 := HOw.out.frozenAt k
          have HST := hide' (HOw.out.stored k (.slice (some ⟨wo.heap.size, 0, none⟩) q q)).1
          have hgz := own_cells_int HQ.out
          go_wp2
          go_roundw
          case rel =>
            refine ⟨k + 1, fun i => if i = k then wo.heap.size else G i, by go_num, by omega, ?_, ?_, ?_⟩
            · show World.ownsRow _ _ _ _ _ _ _
              rw [← rowsTo_set hlt]; exact HST.out
            · intro i hi
              by_cases e : i = k
              · subst e
                obtain ⟨_, cur, hc1, hc2, hc3⟩ := own_row HQ.out
                refine ⟨by simp; omega, ⟨cur, ?_, hc2, fun j hj => by rw [hc3 j hj]; simp [rowTo, hj]⟩, fun i' hi' => ?_⟩
                · dsimp only; rw [if_pos rfl, Below.heap_setCell _ _ _ _ (by show wo.heap.size ≠ w.heap.size; omega)]; exact hc1
                · dsimp only; rw [if_pos rfl, if_neg (by omega)]
                  obtain ⟨_, ⟨ci, h2, _⟩, _⟩ := HG.out i' hi'
                  exact (Array.getElem?_eq_some_iff.1 h2).1
              · obtain ⟨g1, ⟨ci, g2, g3, g4⟩, g5⟩ := HG.out i (by omega)
                refine ⟨by dsimp only; rw [if_neg e]; exact g1, ⟨ci, ?_, g3, g4⟩, fun i' hi' => by dsimp only; rw [if_neg e, if_neg (by omega)]; exact g5 i' hi'⟩
                dsimp only; rw [if_neg e, Below.heap_setCell _ _ _ _ (by show G i ≠ w.heap.size; omega), HB2.out.block _ (Array.getElem?_eq_some_iff.1 g2).1]; exact g2
            · exact (HB.out.trans (HB2.out.mono hbz)).setCell (by exact Nat.le_refl _) _
          case measure => simp [intOf]; omega
    · have hke : k = n := by omega
      subst hke
      go_wp2
      go_ret
      refine ⟨_, rfl, ⟨w.heap.size, G, rfl, ?_, fun i hi => ?_, fun i i' h1 h2 => (HG.out i' h2).2.2 i h1⟩, HB.out⟩
      · have h := HO.out
        have e : rowsTo G k k = (List.range k).map fun i => Value.slice (some ⟨G i, 0, none⟩) k k := by
          unfold rowsTo; apply List.map_congr_left; intro i hi; rw [if_pos (by simpa using hi)]
        rw [e] at h; exact h
      · obtain ⟨g1, g2, _⟩ := HG.out i hi
        exact ⟨by omega, g2⟩
theorem table_any (nb N n g0 c0 Bs : Nat) (F : Nat → Nat → Int) (S : Nat → Nat) (w : World) (h : NetAt w nb N F) (hn1 : 1 ≤ n) (hn : n ≤ 8) (hS : ∀ i, i < n → S i < N)
    (hs : w.ownsRow Bs 3 1 (.slice (some ⟨g0, 0, none⟩) n c0) n (ints ((List.range n).map fun i => (S i : Int)))) :
    Calls Try.prog 46 #[.pointer (some ⟨nb, 0, none⟩), .slice (some ⟨g0, 0, none⟩) n c0] w fun e w' => ∃ v, e = .returned v ∧ Grid w' w.heap.size v n (fun i j => F (S i) (S j)) ∧ Below w.heap.size w w' :=
  (table_own nb N n g0 c0 Bs F S w h hn1 hn hS hs).mono fun _ _ ⟨v, h1, h2, h3⟩ => ⟨v, h1, h2.grid, h3⟩
end Go.Proofs.Ytebinaopncclgaa
