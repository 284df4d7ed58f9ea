/- Walks: Assign of any square. -/
import Derived.Test.YtebinaopncclgaaAMatch
import Derived.Test.YtebinaopncclgaaAOpen
namespace Go.Proofs.Ytebinaopncclgaa
open Go.RowKit Go.IntWalk

set_option maxRecDepth 100000 in
set_option maxHeartbeats 4000000 in
theorem cellFault_ok (n : Nat) (C : Nat → Nat → Int) (vc : Value) (w : World) (hn : n ≤ 10) (hsq : SqR w vc n C) (hc : CellOk n C) :
    Calls Try.prog 55 #[vc] w fun e w' => e = .returned (.int .i64 0) ∧ Below w.heap.size w w' := by
  obtain ⟨af, cf, rfl, _, hq⟩ := hsq
  have HQ := hid hq
  have HC := hid hc
  clear hq hc
  go_enter Try.func55, Try.ntmps55
  go_wp2_with fail
  go_loopw [3] (fun i wr => ∃ k : Nat, k ≤ n ∧ i = .int .i64 k ∧ Hid (Below w.heap.size w wr)) (fun i _ => n - (intOf i).toNat)
  case atStart => exact ⟨0, Nat.zero_le _, rfl, Below.refl _ _⟩
  case round =>
    obtain ⟨k, hk, rfl, HB⟩ := hrel
    by_cases hlt : k < n
    · obtain ⟨fg, fgi, fci, rfl, hfg, hfc, hfgi, hfr⟩ := HQ.out k hlt
      have x0 : wr.cell? ⟨fg, k, none⟩ = _ := (HB.out.cell (by exact hfg)).trans hfc
      have x1 : fg < wr.heap.size := Nat.lt_of_lt_of_le hfg HB.out.size
      have ik : (0 : Int) ≤ (k : Int) := by omega
      have jk : (k : Int) < (n : Int) := by omega
      clear hfr
      go_wp2_with go_in
      go_roundw
      case rel => exact ⟨k + 1, by omega, by go_num, by first | exact HB | exact HB.out.drew⟩
      case measure => simp [intOf]; omega
    · obtain ⟨wa, hwa⟩ : ∃ wa, wa = wr := ⟨_, rfl⟩
      rw [← hwa] at HB
      go_wp2_with go_in
      rw [← hwa]
      clear hwa
      go_loopw [4] (fun i wr => ∃ k : Nat, k ≤ n ∧ i = .int .i64 k ∧ Hid (Below w.heap.size w wr)) (fun i _ => n - (intOf i).toNat)
      case atStart => exact ⟨0, Nat.zero_le _, rfl, HB⟩
      case round =>
        clear HB
        obtain ⟨k2, hk2, rfl, HB⟩ := hrel
        by_cases hlt2 : k2 < n
        · obtain ⟨fg, fgi, fci, rfl, hfg, hfc, hfgi, hfr⟩ := HQ.out k2 hlt2
          have HFR := hid hfr
          obtain ⟨wo, hwo⟩ : ∃ wo, wo = wr := ⟨_, rfl⟩
          rw [← hwo] at HB
          clear hfr
          go_wp2_with fail
          rw [← hwo]
          clear hwo
          go_loopw [5] (fun i wr => ∃ k : Nat, k ≤ n ∧ i = .int .i64 k ∧ Hid (Below w.heap.size w wr)) (fun i _ => n - (intOf i).toNat)
          case atStart => exact ⟨0, Nat.zero_le _, rfl, HB⟩
          case round =>
            clear HB
            obtain ⟨j, hj, rfl, HB⟩ := hrel
            have x0 : wr.cell? ⟨fg, k2, none⟩ = _ := (HB.out.cell (by exact hfg)).trans hfc
            have x1 : fg < wr.heap.size := Nat.lt_of_lt_of_le hfg HB.out.size
            have x2 : fgi < wr.heap.size := Nat.lt_of_lt_of_le hfgi HB.out.size
            have ik : (0 : Int) ≤ (k2 : Int) := by omega
            have jk : (k2 : Int) < (n : Int) := by omega
            by_cases hlj : j < n
            · have x3 : wr.cell? ⟨fgi, j, none⟩ = _ := (HB.out.cell (by exact hfgi)).trans (HFR.out j hlj)
              have hcb := HC.out k2 j hlt2 hlj
              have ij : (0 : Int) ≤ (j : Int) := by omega
              have jj : (j : Int) < (n : Int) := by omega
              go_wp2_with go_in
              go_roundw
              case rel => exact ⟨j + 1, by omega, by go_num, by first | exact HB | exact HB.out.drew | exact below_drewN' HB.out _⟩
              case measure => simp [intOf]; omega
            · go_wp2_with go_in
              go_roundw
              case rel => exact ⟨k2 + 1, by omega, by go_num, by first | exact HB | exact HB.out.drew⟩
              case measure => simp [intOf]; omega
        · go_wp2_with go_in
          go_ret
          exact ⟨rfl, HB.out⟩

theorem tinv_zero {n : Nat} {C : Nat → Nat → Int} {ow : Nat → Int} (hc : CellOk n C) (ho : ∀ c, c < n → ow c = -1) : TInv n C (fun _ => 0) (fun _ => 0) ow 0 :=
  ⟨fun i j hi hj h => by have := hc i j hi hj; omega, fun j hj => .inl (ho j hj), fun j k hj _ _ h => absurd (ho j hj) h, fun _ _ _ => rfl, fun _ _ => Int.le_refl _, fun _ _ => Int.le_refl _, fun _ _ _ => rfl, fun i h => absurd h (by omega), fun _ _ => by simp, fun _ _ => by simp⟩

theorem own_aside {w : World} {B q o n size : Nat} {e : TypeId} {v y : Value} {xs : List Value} (h : w.ownsRow B e size v n xs) (hq : q < B) : (w.setCell ⟨q, o, none⟩ y).ownsRow B e size v n xs := by
  refine ⟨h.1, ?_⟩
  rcases h.2 with h1 | ⟨g, cap, cur, h1, h2, h3, h4⟩
  · exact .inl h1
  · exact .inr ⟨g, cap, cur, h1, h2, (Below.heap_setCell _ _ _ _ (by show g ≠ q; omega)).trans h3, h4⟩
/- six cells of a box -/
theorem six_at {w : World} {b : Nat} {x0 x1 x2 x3 x4 x5 : Value} {t : TypeId} (h : w.heap[b]? = some (.cells #[x0, x1, x2, x3, x4, x5] t (0, 0))) : b < w.heap.size ∧ w.cell? ⟨b, 0, none⟩ = some x0 ∧ w.cell? ⟨b, 1, none⟩ = some x1 ∧ w.cell? ⟨b, 2, none⟩ = some x2 ∧ w.cell? ⟨b, 3, none⟩ = some x3 ∧ w.cell? ⟨b, 4, none⟩ = some x4 ∧ w.cell? ⟨b, 5, none⟩ = some x5 ∧ ∀ o, w.frozen? ⟨b, o, none⟩ = false := by
  refine ⟨(Array.getElem?_eq_some_iff.1 h).1, ?_, ?_, ?_, ?_, ?_, ?_, fun o => frozen_of_row w b o _ _ h⟩ <;> (rw [cell_of_row _ _ _ _ _ _ h]; rfl)
/- what Best leaves -/
def BestLeft (w : World) (n : Nat) (C : Nat → Nat → Int) (e : Ending) (w' : World) : Prop :=
  Below w.heap.size w w' ∧ ((∃ g1 g2 g3 col u v cost, e = .returned (.tuple #[.agg #[.bool true, .int .i64 cost, .slice (some ⟨g1, 0, none⟩) n n, .slice (some ⟨g2, 0, none⟩) n n, .slice (some ⟨g3, 0, none⟩) n n, .slice none 0 0], .int .i64 0]) ∧ w.heap.size ≤ g1 ∧ w.heap.size ≤ g2 ∧ w.heap.size ≤ g3 ∧ g1 ≠ g2 ∧ g1 ≠ g3 ∧ g2 ≠ g3 ∧ RowAt w' g1 n col ∧ RowAt w' g2 n u ∧ RowAt w' g3 n v ∧ Tight n C col u v cost) ∨
    ∃ x S T, e = .returned (.tuple #[.agg #[.bool false, .int .i64 0, .slice none 0 0, .slice none 0 0, .slice none 0 0, x], .int .i64 0]) ∧ w'.ownsRow w.heap.size 3 1 x ((List.range n).filter S).length (ints (((List.range n).filter S).map fun (i : Nat) => (i : Int))) ∧ Short n C S T)

set_option maxRecDepth 100000 in
set_option maxHeartbeats 4000000 in
theorem best_any (n : Nat) (C : Nat → Nat → Int) (vc : Value) (w : World) (hn : n ≤ 10) (hsq : SqR w vc n C) (hc : CellOk n C) : Calls Try.prog 34 #[vc] w (BestLeft w n C) := by
  have HSQ := hid hsq
  have HC := hid hc
  have HCF : Hid (∀ W, Below w.heap.size w W → _) := fun W hW => cellFault_ok n C vc W hn (hsq.below hW) hc
  have HOP : Hid (∀ W, Below w.heap.size w W → _) := fun W hW => aopen_any n C vc W hn (hsq.below hW)
  obtain ⟨af, cf, hvc, _, _⟩ := id hsq
  have HVC := hid hvc
  subst hvc
  clear hsq hc
  go_enter Try.func34, Try.ntmps34
  go_wp2_with fail
  refine (HCF.out _ (below1 w _)).mono ?_
  rintro e1 w1 ⟨rfl, hb1⟩
  have HB1 : Hid (Below w.heap.size w w1) := (below1 w _).trans (hb1.mono (by simp))
  have hz1 : w1.heap[w.heap.size]? = some (.cells #[.bool false, .int .i64 0, .slice none 0 0, .slice none 0 0, .slice none 0 0, .slice none 0 0] 49 (0, 0)) := (hb1.block _ (by simp)).trans (heap_alloc_new w _)
  have HZ1 := hid hz1
  have hzl : w.heap.size < w1.heap.size := (Array.getElem?_eq_some_iff.1 hz1).1
  clear hb1 hz1 HCF
  go_wp2_with fail
  refine (HOP.out w1 HB1.out).mono ?_
  rintro e2 w2 ⟨p, rfl, hpw, ow0, ho0, ht0, hb2⟩
  have HT0 := hid ht0
  have HB2 := hid hb2
  have HI0 := hid (tinv_zero HC.out ho0)
  have HSQ1 := hid (HSQ.out.below HB1.out)
  clear ht0 hb2 ho0 HOP
  go_wp2_with fail
  go_loopw [6] (fun i wr => ∃ (k : Nat) (u v ow : Nat → Int), k ≤ n ∧ i = .int .i64 k ∧ Hid (TInv n C u v ow k) ∧ Hid (TabAt wr p n (.slice af n cf) u v ow) ∧ Hid (Below w1.heap.size w1 wr)) (fun i _ => n - (intOf i).toNat)
  case atStart => exact ⟨0, _, _, ow0, Nat.zero_le _, rfl, HI0, HT0, HB2⟩
  case round =>
    clear HI0 HT0 HB2
    obtain ⟨k, u, v, ow, hk, rfl, HI, HT, HB⟩ := hrel
    have t0 := HT.out.c0
    have hpl := HT.out.lt
    by_cases hlt : k < n
    · have HH0 := hid (hunt_new wr k)
      obtain ⟨W, hW⟩ : ∃ W, W = wr.alloc (.cells #[.int .i64 k, .int .i64 0, .int .i64 0, .int .i64 0, .int .i64 0, .int .i64 0, .int .i64 0, .int .i64 0, .int .i64 0, .int .i64 0, .int .i64 0, .int .i64 0, .int .i64 0, .int .i64 0, .int .i64 0, .int .i64 0, .int .i64 0, .int .i64 0, .int .i64 0, .int .i64 0, .int .i64 0, .bool false, .bool false, .bool false, .bool false, .bool false, .bool false, .bool false, .bool false, .bool false, .bool false] 116) := ⟨_, rfl⟩
      have hbW : Below wr.heap.size wr W := by rw [hW]; exact below1 wr _
      rw [← hW] at HH0
      have HTW := hid (HT.out.below hbW)
      have HBW : Hid (Below w1.heap.size w1 W) := HB.out.trans (hbW.mono HB.out.size)
      have hqb : w1.heap.size ≤ wr.heap.size := HB.out.size
      have hpq : p ≠ wr.heap.size := by omega
      have HCR := hid (reach_any p wr.heap.size n k C (.slice af n cf) u v ow (fun _ => 0) (fun _ => 0) w1 W hn hlt hpq hqb HBW.out HSQ1.out HC.out HI.out HTW.out HH0.out)
      have HWQ := hid hW
      clear hbW hW
      go_wp2_with fail
      rw [← HWQ.out]
      refine HCR.out.mono ?_
      rintro e3 w3 ⟨far, fr, dn, ord, cnt, hh3, ht3, hb3, hcase⟩
      have HH3 := hid hh3
      have HT3 := hid ht3
      have HB3 := hid hb3
      clear hh3 ht3 hb3 HCR HTW HH0 HBW
      rcases hcase with ⟨rfl, hhi, hall⟩ | ⟨c, rfl, hend⟩
      · have HSH := hid (hunt_short HI.out hlt hhi hall)
        have HCS := hid (shortRows_any p wr.heap.size n k (.slice af n cf) u v ow far fr dn w3 hn hlt (fun c hc hd => by
          rcases HI.out.own c hc with h1 | ⟨i, h1, h2, _⟩
          · exact absurd h1 (hhi.sub c hc hd).2
          · exact ⟨i, h1, by omega⟩) HT3.out HH3.out)
        clear hhi hall
        go_wp2_with fail
        refine HCS.out.mono ?_
        rintro e4 w4 ⟨x, rfl, ho4, hb4⟩
        obtain ⟨ax, cx, hxv, _, _⟩ := own_val ho4
        have hb34 : Below w1.heap.size w1 w4 := HB3.out.trans (hb4.mono HB3.out.size)
        have HB4 : Hid (Below w.heap.size w w4) := HB1.out.trans (hb34.mono HB1.out.size)
        have hz4 := (hb34.block _ hzl).trans HZ1.out
        obtain ⟨zl, z0, z1, z2, z3, z4, z5, zf⟩ := six_at hz4
        have HO4 := hid ho4
        have hlt3 : w.heap.size < w3.heap.size := Nat.lt_of_lt_of_le hzl HB3.out.size
        subst hxv
        clear ho4 hb4 hb34 hz4 HCS HT3 HH3
        go_wp2_with fail
        refine bodyPost_ret (v := .tuple #[.agg #[.bool false, .int .i64 0, .slice none 0 0, .slice none 0 0, .slice none 0 0, .slice ax ((List.range n).filter (shS ow dn k n)).length cx], .int .i64 0]) (by simp [results, Try.results34, go_sem, z0, z1, z2, z3, z4, z5]) rfl ?_
        refine ⟨(((((HB4.out.setCell (by exact Nat.le_refl _) _).setCell (by exact Nat.le_refl _) _).setCell (by exact Nat.le_refl _) _).setCell (by exact Nat.le_refl _) _).setCell (by exact Nat.le_refl _) _).setCell (by exact Nat.le_refl _) _, .inr ⟨_, shS ow dn k n, dn, rfl, ?_, HSH.out⟩⟩
        exact own_base (own_aside (own_aside (own_aside (own_aside (own_aside (own_aside HO4.out hlt3) hlt3) hlt3) hlt3) hlt3) hlt3) (by omega)
      · have hcn := hend.lt
        have hfpos : 0 ≤ far c ∧ far c ≤ 2000000 := by
          have h1 := hend.inv.known c hcn hend.dne
          rcases hend.inv.pos c hcn with h2 | h2
          · exact absurd h2 h1
          · exact ⟨h2, hend.small⟩
        have hfd : ∀ x, x < n → dn x = true → 0 ≤ far x ∧ far x ≤ far c := fun x hx hd => by
          have h1 := hend.inv.known x hx hd
          rcases hend.inv.pos x hx with h2 | h2
          · exact absurd h2 h1
          · exact ⟨h2, hend.last x hx hd⟩
        obtain ⟨hub, hvb⟩ := HI.out.ub hn (by omega)
        have HRZ := hid (rz_raised (far := far) (dn := dn) (D := far c) HI.out)
        have hown : ∀ x, x < n → ow x = -1 ∨ ∃ i : Nat, ow x = i ∧ i < n := fun x hx => by
          rcases HI.out.own x hx with h1 | ⟨i, h1, h2, _⟩
          · exact .inl h1
          · exact .inr ⟨i, h1, by omega⟩
        have HEND := hid hend
        have f0 := HH3.out.cf c (by omega)
        have HCW : Hid (∀ W2, Below w3.heap.size w3 W2 → Calls Try.prog 59 #[.pointer (some ⟨p, 0, none⟩), .pointer (some ⟨wr.heap.size, 0, none⟩), .int .i64 (far c)] W2 fun e w' => e = .returned (.tuple #[]) ∧ w'.cell? ⟨wr.heap.size, 1 + c, none⟩ = some (.int .i64 (far c)) ∧ Hid (HuntAt w' wr.heap.size k far fr dn) ∧ Hid (TabAt w' p n (.slice af n cf) (rzU ow far dn (far c) (up1 u k (u k + far c)) n) (rzV ow far dn (far c) v n) ow) ∧ Hid (Below w1.heap.size w1 w')) := by
          intro W2 h2
          refine (raise_any p wr.heap.size n k (.slice af n cf) u v ow far fr dn (far c) w1 W2 hn hlt hpq hpw (HB3.out.trans (h2.mono HB3.out.size)) hfpos hfd (fun m hm i hi => by have := rzU_bd HI.out hfpos hfd hlt hn m hm i hi; omega) (fun i hi => by have := hvb i hi; omega) (by have := hub k hlt; omega) hown (HT3.out.below h2) (HH3.out.below h2)).mono ?_
          rintro e4 w4 ⟨rfl, h4, t4, b4⟩
          exact ⟨rfl, h4.cf c (by omega), h4, t4, b4⟩
        obtain ⟨fc, hfc⟩ : ∃ fc, fc = far c := ⟨_, rfl⟩
        rw [← hfc] at f0 HCW
        have HFC := hid hfc
        have ic : (0 : Int) ≤ (c : Int) := by omega
        have jc : (c : Int) < 10 := by omega
        have c1 : ((c : Int) == (-1 : Int)) = false := by simp
        have hp3 := HT3.out.lt
        have hq3 := HH3.out.lt
        clear hend hfpos hfd hub hvb hown hfc t0 hpl
        go_wp2_with fail
        refine (HCW.out _ (by first | exact Below.refl _ _ | exact (Below.refl _ _).drew)).mono ?_
        rintro e4 w4 ⟨rfl, x0, HH4, HT4, HB4⟩
        clear x0 f0 HCW
        rw [HFC.out] at HT4
        have HCG := hid (give_any p wr.heap.size n k c cnt C (.slice af n cf) u v _ _ ow far fr dn ord w1 w4 hn hpq hpw HB4.out HEND.out HI.out HT4.out HH4.out)
        go_wp2_with fail
        refine HCG.out.mono ?_
        rintro e5 w5 ⟨rfl, Wp, j, ow', hgv, hdn, ht5, hb5⟩
        have HI5 := hid (hunt_done HI.out hlt HEND.out HRZ.out hgv hdn)
        have HT5 := hid ht5
        have HB5 := hid hb5
        clear hgv hdn ht5 hb5 HCG HH4 HT4 HB4
        go_wp2_with fail
        go_roundw
        case rel => exact ⟨k + 1, _, _, ow', by omega, by go_num, HI5, HT5, HB5⟩
        case measure => simp [intOf]; omega
    · have hke : k = n := by omega
      subst hke
      have hlt1 := last_tight hn HI.out
      have hao := all_owned HI.out
      have HTI := hid hlt1
      have HCM := hid (match_any p k C (.slice af k cf) u v ow w1 wr hn hpw HB.out HSQ1.out HC.out (fun j hj => by obtain ⟨i, h1, h2, _⟩ := hao j hj; exact ⟨i, h1, h2⟩) (fun j hj => by
        obtain ⟨i, h1, h2, h3, _⟩ := hao j hj
        have := (HC.out i j h2 hj).1
        rw [h1]; simp; omega) HT.out)
      clear hlt1 hao
      go_wp2_with fail
      refine HCM.out.mono ?_
      rintro e4 w4 ⟨g1, g2, g3, rfl, l1, l2, l3, n12, n13, n23, r1, r2, r3, hb4⟩
      have hb34 : Below w1.heap.size w1 w4 := HB.out.trans (hb4.mono HB.out.size)
      have HB4 : Hid (Below w.heap.size w w4) := HB1.out.trans (hb34.mono HB1.out.size)
      have hz4 := (hb34.block _ hzl).trans HZ1.out
      obtain ⟨zl, z0, z1, z2, z3, z4, z5, zf⟩ := six_at hz4
      have hsz := HB.out.size
      have HR1 := hid r1
      have HR2 := hid r2
      have HR3 := hid r3
      obtain ⟨cst, hcst⟩ : ∃ cst, cst = sumL (fun c => C (ow c).toNat c) (List.range k) := ⟨_, rfl⟩
      rw [← hcst] at HTI ⊢
      have hg1 : g1 ≠ w.heap.size := by omega
      have hg2 : g2 ≠ w.heap.size := by omega
      have hg3 : g3 ≠ w.heap.size := by omega
      clear hb4 hb34 hz4 HCM r1 r2 r3 hcst t0 hpl
      go_wp2_with fail
      refine bodyPost_ret (v := .tuple #[.agg #[.bool true, .int .i64 cst, .slice (some ⟨g1, 0, none⟩) k k, .slice (some ⟨g2, 0, none⟩) k k, .slice (some ⟨g3, 0, none⟩) k k, .slice none 0 0], .int .i64 0]) (by simp [results, Try.results34, go_sem, z0, z1, z2, z3, z4, z5]) rfl ?_
      refine ⟨(((((HB4.out.setCell (by exact Nat.le_refl _) _).setCell (by exact Nat.le_refl _) _).setCell (by exact Nat.le_refl _) _).setCell (by exact Nat.le_refl _) _).setCell (by exact Nat.le_refl _) _).setCell (by exact Nat.le_refl _) _, .inl ⟨g1, g2, g3, colS ow k, u, v, cst, rfl, by omega, by omega, by omega, n12, n13, n23, ?_, ?_, ?_, HTI.out.1⟩⟩
      · exact (((((HR1.out.aside hg1 _).aside hg1 _).aside hg1 _).aside hg1 _).aside hg1 _).aside hg1 _
      · exact ((((((HR2.out.aside hg2 _).aside hg2 _).aside hg2 _).aside hg2 _).aside hg2 _).aside hg2 _).congr HTI.out.2
      · exact (((((HR3.out.aside hg3 _).aside hg3 _).aside hg3 _).aside hg3 _).aside hg3 _).aside hg3 _
end Go.Proofs.Ytebinaopncclgaa
namespace Go.Proofs.Ytebinaopncclgaa
open Go.RowKit Go.IntWalk

/- rows that came in: lists of lists -/
def LRowsZ (w : World) (ao : Option Addr) (n : Nat) (ra : Nat → Option Addr) (rn rc : Nat → Nat) (Q : Nat → Nat → Int) : Prop :=
  0 < n → ∃ b o, ao = some ⟨b, o, none⟩ ∧ b < w.heap.size ∧ ∀ i, i < n → w.cell? ⟨b, o + i, none⟩ = some (.slice (ra i) (rn i) (rc i)) ∧ rn i ≤ 9223372036854775807 ∧ (0 < rn i → ∃ b' o', ra i = some ⟨b', o', none⟩ ∧ b' < w.heap.size ∧ ∀ j, j < rn i → w.cell? ⟨b', o' + j, none⟩ = some (.int .i64 (Q i j)) ∧ -9223372036854775808 ≤ Q i j ∧ Q i j ≤ 9223372036854775807)
theorem LRowsZ.below {w w' : World} {ao : Option Addr} {n : Nat} {ra : Nat → Option Addr} {rn rc : Nat → Nat} {Q : Nat → Nat → Int} (h : LRowsZ w ao n ra rn rc Q) (hb : Below w.heap.size w w') : LRowsZ w' ao n ra rn rc Q := fun hn => by
  obtain ⟨b, o, h1, h2, h3⟩ := h hn
  refine ⟨b, o, h1, Nat.lt_of_lt_of_le h2 hb.size, fun i hi => ?_⟩
  obtain ⟨k1, k2, k3⟩ := h3 i hi
  refine ⟨(hb.cell (by exact h2)).trans k1, k2, fun hr => ?_⟩
  obtain ⟨b', o', m1, m2, m3⟩ := k3 hr
  exact ⟨b', o', m1, Nat.lt_of_lt_of_le m2 hb.size, fun j hj => ⟨(hb.cell (by exact m2)).trans (m3 j hj).1, (m3 j hj).2⟩⟩
def sqFault (n : Nat) (rn : Nat → Nat) (Q : Nat → Nat → Int) : Int :=
  if 10 < n then 12 else if ∀ i, i < n → rn i = n then (if ∀ i, i < n → ∀ j, j < n → -1 ≤ Q i j ∧ Q i j ≤ 200000 then 0 else 4) else 12
theorem sqFault_big {n : Nat} {rn : Nat → Nat} {Q : Nat → Nat → Int} (h : 10 < n) : sqFault n rn Q = 12 := if_pos h
theorem sqFault_row {n i : Nat} {rn : Nat → Nat} {Q : Nat → Nat → Int} (h : ¬ 10 < n) (hi : i < n) (hr : rn i ≠ n) : sqFault n rn Q = 12 := by
  unfold sqFault; rw [if_neg h, if_neg (fun hh => hr (hh i hi))]
theorem sqFault_cell {n i j : Nat} {rn : Nat → Nat} {Q : Nat → Nat → Int} (h : ¬ 10 < n) (hr : ∀ i, i < n → rn i = n) (hi : i < n) (hj : j < n) (hq : ¬ (-1 ≤ Q i j ∧ Q i j ≤ 200000)) : sqFault n rn Q = 4 := by
  unfold sqFault; rw [if_neg h, if_pos hr, if_neg (fun hh => hq (hh i hi j hj))]
theorem sqFault_ok {n : Nat} {rn : Nat → Nat} {Q : Nat → Nat → Int} (h : ¬ 10 < n) (hr : ∀ i, i < n → rn i = n) (hq : ∀ i, i < n → ∀ j, j < n → -1 ≤ Q i j ∧ Q i j ≤ 200000) : sqFault n rn Q = 0 := by
  unfold sqFault; rw [if_neg h, if_pos hr, if_pos hq]
theorem sqFault_is {n : Nat} {rn : Nat → Nat} {Q : Nat → Nat → Int} (h : sqFault n rn Q = 0) : n ≤ 10 ∧ (∀ i, i < n → rn i = n) ∧ CellOk n Q := by
  unfold sqFault at h
  by_cases h1 : 10 < n
  · rw [if_pos h1] at h; omega
  rw [if_neg h1] at h
  by_cases h2 : ∀ i, i < n → rn i = n
  · rw [if_pos h2] at h
    by_cases h3 : ∀ i, i < n → ∀ j, j < n → -1 ≤ Q i j ∧ Q i j ≤ 200000
    · exact ⟨by omega, h2, fun i j hi hj => h3 i hi j hj⟩
    · rw [if_neg h3] at h; omega
  · rw [if_neg h2] at h; omega

set_option maxRecDepth 100000 in
set_option maxHeartbeats 4000000 in
theorem cellFault_any (ao : Option Addr) (n c : Nat) (ra : Nat → Option Addr) (rn rc : Nat → Nat) (Q : Nat → Nat → Int) (w : World) (hlen : n ≤ 9223372036854775807) (hl : LRowsZ w ao n ra rn rc Q) :
    Calls Try.prog 55 #[.slice ao n c] w fun e w' => e = .returned (.int .i64 (sqFault n rn Q)) ∧ Below w.heap.size w w' := by
  have HL := hid hl
  obtain ⟨F, hF⟩ : ∃ F, F = sqFault n rn Q := ⟨_, rfl⟩
  rw [← hF]
  have HF := hid hF
  clear hl hF
  go_enter Try.func55, Try.ntmps55
  by_cases h10 : 10 < n
  · have h10' : (10 : Int) < (n : Int) := by omega
    go_wp2_with go_in
    go_ret
    exact ⟨by rw [HF.out, sqFault_big h10]; rfl, Below.refl _ _⟩
  have h10' : ¬ (10 : Int) < (n : Int) := by omega
  go_wp2_with go_in
  go_loopw [3] (fun i wr => ∃ k : Nat, k ≤ n ∧ i = .int .i64 k ∧ (∀ i, i < k → rn i = n) ∧ Hid (Below w.heap.size w wr)) (fun i _ => n - (intOf i).toNat)
  case atStart => exact ⟨0, Nat.zero_le _, rfl, fun i h => absurd h (by omega), Below.refl _ _⟩
  case round =>
    obtain ⟨k, hk, rfl, hall, HB⟩ := hrel
    by_cases hlt : k < n
    · obtain ⟨lb, lo, hla, hlb, hrow⟩ := HL.out (by omega)
      obtain ⟨hr0, hr1, hr2⟩ := hrow k hlt
      subst hla
      have x0 : wr.cell? ⟨lb, lo + k, none⟩ = _ := (HB.out.cell (by exact hlb)).trans hr0
      have x1 : lb < wr.heap.size := Nat.lt_of_lt_of_le hlb HB.out.size
      have ik : (0 : Int) ≤ (k : Int) := by omega
      have jk : (k : Int) < (n : Int) := by omega
      have HALL := hid hall
      clear hrow hr2 hall hr0
      by_cases hrn : rn k = n
      · have hrn' : (rn k : Int) = (n : Int) := by omega
        go_wp2_with go_in
        go_roundw
        case rel => exact ⟨k + 1, by omega, by go_num, fun i hi => by
          rcases Nat.lt_succ_iff_lt_or_eq.1 hi with h | h
          · exact HALL.out i h
          · rw [h]; exact hrn, by first | exact HB | exact HB.out.drew⟩
        case measure => simp [intOf]; omega
      · have hrn' : ¬ (rn k : Int) = (n : Int) := by omega
        go_wp2_with go_in
        go_ret
        exact ⟨by rw [HF.out, sqFault_row h10 hlt hrn]; rfl, by first | exact HB.out | exact HB.out.drew⟩
    · have HALL : Hid (∀ i, i < n → rn i = n) := fun i hi => hall i (by omega)
      clear hall
      obtain ⟨wa, hwa⟩ : ∃ wa, wa = wr := ⟨_, rfl⟩
      rw [← hwa] at HB
      go_wp2_with go_in
      rw [← hwa]
      clear hwa
      go_loopw [4] (fun i wr => ∃ k : Nat, k ≤ n ∧ i = .int .i64 k ∧ Hid (∀ i, i < k → ∀ j, j < n → -1 ≤ Q i j ∧ Q i j ≤ 200000) ∧ Hid (Below w.heap.size w wr)) (fun i _ => n - (intOf i).toNat)
      case atStart => exact ⟨0, Nat.zero_le _, rfl, fun i h => absurd h (by omega), HB⟩
      case round =>
        clear HB
        obtain ⟨k2, hk2, rfl, HC, HB⟩ := hrel
        by_cases hlt2 : k2 < n
        · obtain ⟨lb, lo, hla, hlb, hrow⟩ := HL.out (by omega)
          obtain ⟨hr0, hr1, hr2⟩ := hrow k2 hlt2
          obtain ⟨b', o', hra, hb', hcell⟩ := hr2 (by rw [HALL.out k2 hlt2]; omega)
          rw [HALL.out k2 hlt2] at hcell hr0
          have HCELL := hid hcell
          subst hla
          rw [hra] at hr0
          obtain ⟨wo, hwo⟩ : ∃ wo, wo = wr := ⟨_, rfl⟩
          rw [← hwo] at HB
          clear hrow hr2 hcell
          go_wp2_with fail
          rw [← hwo]
          clear hwo
          go_loopw [5] (fun i wr => ∃ k : Nat, k ≤ n ∧ i = .int .i64 k ∧ Hid (∀ j, j < k → -1 ≤ Q k2 j ∧ Q k2 j ≤ 200000) ∧ Hid (Below w.heap.size w wr)) (fun i _ => n - (intOf i).toNat)
          case atStart => exact ⟨0, Nat.zero_le _, rfl, fun i h => absurd h (by omega), HB⟩
          case round =>
            clear HB
            obtain ⟨j, hj, rfl, HD, HB⟩ := hrel
            have x0 : wr.cell? ⟨lb, lo + k2, none⟩ = _ := (HB.out.cell (by exact hlb)).trans hr0
            have x1 : lb < wr.heap.size := Nat.lt_of_lt_of_le hlb HB.out.size
            have x2 : b' < wr.heap.size := Nat.lt_of_lt_of_le hb' HB.out.size
            have ik : (0 : Int) ≤ (k2 : Int) := by omega
            have jk : (k2 : Int) < (n : Int) := by omega
            by_cases hlj : j < n
            · have x3 : wr.cell? ⟨b', o' + j, none⟩ = _ := (HB.out.cell (by exact hb')).trans (HCELL.out j hlj).1
              have hcb := (HCELL.out j hlj).2
              have ij : (0 : Int) ≤ (j : Int) := by omega
              have jj : (j : Int) < (n : Int) := by omega
              by_cases hq1 : Q k2 j < -1
              · go_wp2_with go_in
                go_ret
                exact ⟨by rw [HF.out, sqFault_cell h10 HALL.out hlt2 hlj (by omega)]; rfl, by first | exact HB.out | exact HB.out.drew | exact below_drewN' HB.out _⟩
              by_cases hq2 : 200000 < Q k2 j
              · go_wp2_with go_in
                go_ret
                exact ⟨by rw [HF.out, sqFault_cell h10 HALL.out hlt2 hlj (by omega)]; rfl, by first | exact HB.out | exact HB.out.drew | exact below_drewN' HB.out _⟩
              go_wp2_with go_in
              go_roundw
              case rel => exact ⟨j + 1, by omega, by go_num, fun i hi => by
                rcases Nat.lt_succ_iff_lt_or_eq.1 hi with h | h
                · exact HD.out i h
                · rw [h]; omega, by first | exact HB | exact HB.out.drew | exact below_drewN' HB.out _⟩
              case measure => simp [intOf]; omega
            · go_wp2_with go_in
              go_roundw
              case rel => exact ⟨k2 + 1, by omega, by go_num, fun i hi => by
                rcases Nat.lt_succ_iff_lt_or_eq.1 hi with h | h
                · exact HC.out i h
                · rw [h]; exact fun j' hj' => HD.out j' (by omega), by first | exact HB | exact HB.out.drew⟩
              case measure => simp [intOf]; omega
        · go_wp2_with go_in
          go_ret
          exact ⟨by rw [HF.out, sqFault_ok h10 HALL.out (fun i hi => HC.out i (by omega))]; rfl, HB.out⟩

end Go.Proofs.Ytebinaopncclgaa
namespace Go.Proofs.Ytebinaopncclgaa
open Go.RowKit Go.IntWalk

set_option maxRecDepth 100000 in
set_option maxHeartbeats 2000000 in
theorem passign_any (n : Nat) (C : Nat → Nat → Int) (vc : Value) (w : World) (hn : n ≤ 10) (hsq : SqR w vc n C) (hc : CellOk n C) : Calls Try.prog 18 #[vc] w (BestLeft w n C) := by
  have HC : Hid (∀ W, Below w.heap.size w W → Calls Try.prog 34 #[vc] W (BestLeft W n C)) := fun W hW => best_any n C vc W hn (hsq.below hW) hc
  obtain ⟨af, cf, hvc, _, _⟩ := hsq
  subst hvc
  clear hc
  go_enter Try.func18, Try.ntmps18
  go_wp2_with fail
  refine (HC.out _ (below1 w _)).mono ?_
  rintro e1 w1 ⟨hb1, hcase⟩
  have HB1 : Hid (Below w.heap.size w w1) := (below1 w _).trans (hb1.mono (by simp))
  have hz1 : w1.heap[w.heap.size]? = some (.cells #[.bool false, .int .i64 0, .slice none 0 0, .slice none 0 0, .slice none 0 0, .slice none 0 0] 49 (0, 0)) := (hb1.block _ (by simp)).trans (heap_alloc_new w _)
  obtain ⟨zl, z0, z1, z2, z3, z4, z5, zf⟩ := six_at hz1
  have hsz : (w.alloc (.cells #[.bool false, .int .i64 0, .slice none 0 0, .slice none 0 0, .slice none 0 0, .slice none 0 0] 49)).heap.size = w.heap.size + 1 := by simp
  rcases hcase with ⟨g1, g2, g3, col, u, v, cost, rfl, l1, l2, l3, n12, n13, n23, r1, r2, r3, htt⟩ | ⟨y, S, T, rfl, hy, hsh⟩
  · rw [hsz] at l1 l2 l3
    have HR1 := hid r1
    have HR2 := hid r2
    have HR3 := hid r3
    have HTT := hid htt
    have hg1 : g1 ≠ w.heap.size := by omega
    have hg2 : g2 ≠ w.heap.size := by omega
    have hg3 : g3 ≠ w.heap.size := by omega
    clear r1 r2 r3 htt hb1 hz1 hsz HC
    go_wp2_with fail
    refine bodyPost_ret (v := .tuple #[.agg #[.bool true, .int .i64 cost, .slice (some ⟨g1, 0, none⟩) n n, .slice (some ⟨g2, 0, none⟩) n n, .slice (some ⟨g3, 0, none⟩) n n, .slice none 0 0], .int .i64 0]) (by simp [results, Try.results18, go_sem, z0, z1, z2, z3, z4, z5]) rfl ?_
    refine ⟨(((((HB1.out.setCell (by exact Nat.le_refl _) _).setCell (by exact Nat.le_refl _) _).setCell (by exact Nat.le_refl _) _).setCell (by exact Nat.le_refl _) _).setCell (by exact Nat.le_refl _) _).setCell (by exact Nat.le_refl _) _, .inl ⟨g1, g2, g3, col, u, v, cost, rfl, by omega, by omega, by omega, n12, n13, n23, ?_, ?_, ?_, HTT.out⟩⟩
    · exact (((((HR1.out.aside hg1 _).aside hg1 _).aside hg1 _).aside hg1 _).aside hg1 _).aside hg1 _
    · exact (((((HR2.out.aside hg2 _).aside hg2 _).aside hg2 _).aside hg2 _).aside hg2 _).aside hg2 _
    · exact (((((HR3.out.aside hg3 _).aside hg3 _).aside hg3 _).aside hg3 _).aside hg3 _).aside hg3 _
  · rw [hsz] at hy
    obtain ⟨ay, cy, hyv, _, _⟩ := own_val hy
    have HY := hid hy
    have HSH := hid hsh
    subst hyv
    have hlt3 : w.heap.size < w.heap.size + 1 := by omega
    clear hy hsh hb1 hz1 hsz HC
    go_wp2_with fail
    refine bodyPost_ret (v := .tuple #[.agg #[.bool false, .int .i64 0, .slice none 0 0, .slice none 0 0, .slice none 0 0, .slice ay ((List.range n).filter S).length cy], .int .i64 0]) (by simp [results, Try.results18, go_sem, z0, z1, z2, z3, z4, z5]) rfl ?_
    refine ⟨(((((HB1.out.setCell (by exact Nat.le_refl _) _).setCell (by exact Nat.le_refl _) _).setCell (by exact Nat.le_refl _) _).setCell (by exact Nat.le_refl _) _).setCell (by exact Nat.le_refl _) _).setCell (by exact Nat.le_refl _) _, .inr ⟨_, S, T, rfl, ?_, HSH.out⟩⟩
    exact own_base (own_aside (own_aside (own_aside (own_aside (own_aside (own_aside HY.out hlt3) hlt3) hlt3) hlt3) hlt3) hlt3) (by omega)

def zeroM : Array Value := #[.bool false, .int .i64 0, .slice none 0 0, .slice none 0 0, .slice none 0 0, .slice none 0 0]
set_option maxRecDepth 100000 in
set_option maxHeartbeats 4000000 in
theorem best_bad (ao : Option Addr) (n c : Nat) (ra : Nat → Option Addr) (rn rc : Nat → Nat) (Q : Nat → Nat → Int) (w : World) (hlen : n ≤ 9223372036854775807) (hl : LRowsZ w ao n ra rn rc Q) (hf : sqFault n rn Q ≠ 0) :
    Calls Try.prog 34 #[.slice ao n c] w fun e w' => e = .returned (.tuple #[.agg zeroM, .int .i64 (sqFault n rn Q)]) ∧ Below w.heap.size w w' := by
  have HCF : Hid (∀ W, Below w.heap.size w W → _) := fun W hW => cellFault_any ao n c ra rn rc Q W hlen (hl.below hW)
  obtain ⟨F, hF⟩ : ∃ F, F = sqFault n rn Q := ⟨_, rfl⟩
  rw [← hF] at HCF hf ⊢
  have hne : (F != 0) = true := by simpa using hf
  clear hl hf hF
  go_enter Try.func34, Try.ntmps34
  go_wp2_with fail
  refine (HCF.out _ (below1 w _)).mono ?_
  rintro e1 w1 ⟨rfl, hb1⟩
  have HB1 : Hid (Below w.heap.size w w1) := (below1 w _).trans (hb1.mono (by simp))
  have hz1 : w1.heap[w.heap.size]? = some (.cells zeroM 49 (0, 0)) := (hb1.block _ (by simp)).trans (heap_alloc_new w _)
  obtain ⟨zl, z0, z1, z2, z3, z4, z5, zf⟩ := six_at hz1
  clear hb1 hz1 HCF
  go_wp2_with go_in
  refine bodyPost_ret (v := .tuple #[.agg zeroM, .int .i64 F]) (by simp [results, Try.results34, go_sem, zeroM, z0, z1, z2, z3, z4, z5]) rfl ?_
  exact ⟨rfl, (((((HB1.out.setCell (by exact Nat.le_refl _) _).setCell (by exact Nat.le_refl _) _).setCell (by exact Nat.le_refl _) _).setCell (by exact Nat.le_refl _) _).setCell (by exact Nat.le_refl _) _).setCell (by exact Nat.le_refl _) _⟩

set_option maxRecDepth 100000 in
set_option maxHeartbeats 4000000 in
theorem dassign_bad (ao : Option Addr) (n c : Nat) (ra : Nat → Option Addr) (rn rc : Nat → Nat) (Q : Nat → Nat → Int) (w : World) (hlen : n ≤ 9223372036854775807) (hl : LRowsZ w ao n ra rn rc Q) (hf : sqFault n rn Q ≠ 0) :
    Calls Try.prog 18 #[.slice ao n c] w fun e w' => e = .returned (.tuple #[.agg zeroM, .int .i64 (sqFault n rn Q)]) ∧ Below w.heap.size w w' := by
  have HCF : Hid (∀ W, Below w.heap.size w W → _) := fun W hW => best_bad ao n c ra rn rc Q W hlen (hl.below hW) hf
  obtain ⟨F, hF⟩ : ∃ F, F = sqFault n rn Q := ⟨_, rfl⟩
  rw [← hF] at HCF hf ⊢
  clear hl hf hF
  go_enter Try.func18, Try.ntmps18
  go_wp2_with fail
  refine (HCF.out _ (below1 w _)).mono ?_
  rintro e1 w1 ⟨rfl, hb1⟩
  have HB1 : Hid (Below w.heap.size w w1) := (below1 w _).trans (hb1.mono (by simp))
  have hz1 : w1.heap[w.heap.size]? = some (.cells zeroM 49 (0, 0)) := (hb1.block _ (by simp)).trans (heap_alloc_new w _)
  obtain ⟨zl, z0, z1, z2, z3, z4, z5, zf⟩ := six_at hz1
  clear hb1 hz1 HCF
  unfold zeroM
  go_wp2_with go_in
  refine bodyPost_ret (v := .tuple #[.agg zeroM, .int .i64 F]) (by simp [results, Try.results18, go_sem, zeroM, z0, z1, z2, z3, z4, z5]) rfl ?_
  exact ⟨rfl, (((((HB1.out.setCell (by exact Nat.le_refl _) _).setCell (by exact Nat.le_refl _) _).setCell (by exact Nat.le_refl _) _).setCell (by exact Nat.le_refl _) _).setCell (by exact Nat.le_refl _) _).setCell (by exact Nat.le_refl _) _⟩
end Go.Proofs.Ytebinaopncclgaa
