/- Walks: a hunt goes on from a row. -/
import Derived.Test.YtebinaopncclgaaAPlain
import Derived.Test.YtebinaopncclgaaSqP
import Derived.BigQuiet
namespace Go.Proofs.Ytebinaopncclgaa
open Go.RowKit Go.IntWalk

structure TabAt (w : World) (p n : Nat) (vc : Value) (u v ow : Nat → Int) : Prop where
  box : ∃ cs, w.heap[p]? = some (.cells cs 112 (0, 0))
  c0 : w.cell? ⟨p, 0, none⟩ = some (.int .i64 n)
  c1 : w.cell? ⟨p, 1, none⟩ = some vc
  cu : ∀ i, i < 10 → w.cell? ⟨p, 2 + i, none⟩ = some (.int .i64 (u i))
  cv : ∀ i, i < 10 → w.cell? ⟨p, 12 + i, none⟩ = some (.int .i64 (v i))
  co : ∀ i, i < 10 → w.cell? ⟨p, 22 + i, none⟩ = some (.int .i64 (ow i))
structure HuntAt (w : World) (q root : Nat) (far fr : Nat → Int) (dn : Nat → Bool) : Prop where
  box : ∃ cs, w.heap[q]? = some (.cells cs 116 (0, 0))
  c0 : w.cell? ⟨q, 0, none⟩ = some (.int .i64 root)
  cf : ∀ i, i < 10 → w.cell? ⟨q, 1 + i, none⟩ = some (.int .i64 (far i))
  cr : ∀ i, i < 10 → w.cell? ⟨q, 11 + i, none⟩ = some (.int .i64 (fr i))
  cd : ∀ i, i < 10 → w.cell? ⟨q, 21 + i, none⟩ = some (.bool (dn i))
theorem TabAt.lt {w : World} {p n : Nat} {vc : Value} {u v ow : Nat → Int} (h : TabAt w p n vc u v ow) : p < w.heap.size := by obtain ⟨cs, hc⟩ := h.box; exact (Array.getElem?_eq_some_iff.1 hc).1
theorem HuntAt.lt {w : World} {q root : Nat} {far fr : Nat → Int} {dn : Nat → Bool} (h : HuntAt w q root far fr dn) : q < w.heap.size := by obtain ⟨cs, hc⟩ := h.box; exact (Array.getElem?_eq_some_iff.1 hc).1
theorem TabAt.frozen {w : World} {p n : Nat} {vc : Value} {u v ow : Nat → Int} (h : TabAt w p n vc u v ow) (k : Nat) : w.frozen? ⟨p, k, none⟩ = false := by obtain ⟨cs, hc⟩ := h.box; exact frozen_of_row w p k _ _ hc
theorem HuntAt.frozen {w : World} {q root : Nat} {far fr : Nat → Int} {dn : Nat → Bool} (h : HuntAt w q root far fr dn) (k : Nat) : w.frozen? ⟨q, k, none⟩ = false := by obtain ⟨cs, hc⟩ := h.box; exact frozen_of_row w q k _ _ hc
theorem TabAt.block {w w' : World} {p n : Nat} {vc : Value} {u v ow : Nat → Int} (h : TabAt w p n vc u v ow) (hb : w'.heap[p]? = w.heap[p]?) : TabAt w' p n vc u v ow := by
  have hc : ∀ o, w'.cell? ⟨p, o, none⟩ = w.cell? ⟨p, o, none⟩ := fun o => World.cell?_of_block (a := ⟨p, o, none⟩) hb
  obtain ⟨cs, hcs⟩ := h.box
  exact ⟨⟨cs, hb.trans hcs⟩, (hc _).trans h.c0, (hc _).trans h.c1, fun i hi => (hc _).trans (h.cu i hi), fun i hi => (hc _).trans (h.cv i hi), fun i hi => (hc _).trans (h.co i hi)⟩
theorem HuntAt.block {w w' : World} {q root : Nat} {far fr : Nat → Int} {dn : Nat → Bool} (h : HuntAt w q root far fr dn) (hb : w'.heap[q]? = w.heap[q]?) : HuntAt w' q root far fr dn := by
  have hc : ∀ o, w'.cell? ⟨q, o, none⟩ = w.cell? ⟨q, o, none⟩ := fun o => World.cell?_of_block (a := ⟨q, o, none⟩) hb
  obtain ⟨cs, hcs⟩ := h.box
  exact ⟨⟨cs, hb.trans hcs⟩, (hc _).trans h.c0, fun i hi => (hc _).trans (h.cf i hi), fun i hi => (hc _).trans (h.cr i hi), fun i hi => (hc _).trans (h.cd i hi)⟩
theorem TabAt.below {w w' : World} {p n : Nat} {vc : Value} {u v ow : Nat → Int} (h : TabAt w p n vc u v ow) (hb : Below w.heap.size w w') : TabAt w' p n vc u v ow := h.block (hb.block _ h.lt)
theorem HuntAt.below {w w' : World} {q root : Nat} {far fr : Nat → Int} {dn : Nat → Bool} (h : HuntAt w q root far fr dn) (hb : Below w.heap.size w w') : HuntAt w' q root far fr dn := h.block (hb.block _ h.lt)
theorem TabAt.aside {w : World} {p q n o : Nat} {vc : Value} {u v ow : Nat → Int} (h : TabAt w p n vc u v ow) (hne : p ≠ q) (x : Value) : TabAt (w.setCell ⟨q, o, none⟩ x) p n vc u v ow := h.block (Below.heap_setCell _ _ _ _ (by exact hne))
theorem HuntAt.aside {w : World} {p q root o : Nat} {far fr : Nat → Int} {dn : Nat → Bool} (h : HuntAt w q root far fr dn) (hne : q ≠ p) (x : Value) : HuntAt (w.setCell ⟨p, o, none⟩ x) q root far fr dn := h.block (Below.heap_setCell _ _ _ _ (by exact hne))
theorem HuntAt.putF {w : World} {q root k : Nat} {far fr : Nat → Int} {dn : Nat → Bool} (h : HuntAt w q root far fr dn) (hk : k < 10) (x : Int) : HuntAt (w.setCell ⟨q, 1 + k, none⟩ (.int .i64 x)) q root (up1 far k x) fr dn := by
  obtain ⟨⟨cs, hc⟩, h0, hf, hr, hd⟩ := h
  refine ⟨⟨_, heap_setCell_same w q _ _ _ _ hc⟩, ?_, fun i hi => ?_, fun i hi => ?_, fun i hi => ?_⟩
  · rw [net_cells hc (hf k hk) _ h0, if_neg (by omega)]
  · rw [net_cells hc (hf k hk) _ (hf i hi)]
    unfold up1
    by_cases e : i = k
    · rw [if_pos e, if_pos (by rw [e])]
    · rw [if_neg e, if_neg (by omega)]
  · rw [net_cells hc (hf k hk) _ (hr i hi), if_neg (by omega)]
  · rw [net_cells hc (hf k hk) _ (hd i hi), if_neg (by omega)]
theorem HuntAt.putR {w : World} {q root k : Nat} {far fr : Nat → Int} {dn : Nat → Bool} (h : HuntAt w q root far fr dn) (hk : k < 10) (x : Int) : HuntAt (w.setCell ⟨q, 11 + k, none⟩ (.int .i64 x)) q root far (up1 fr k x) dn := by
  obtain ⟨⟨cs, hc⟩, h0, hf, hr, hd⟩ := h
  refine ⟨⟨_, heap_setCell_same w q _ _ _ _ hc⟩, ?_, fun i hi => ?_, fun i hi => ?_, fun i hi => ?_⟩
  · rw [net_cells hc (hr k hk) _ h0, if_neg (by omega)]
  · rw [net_cells hc (hr k hk) _ (hf i hi), if_neg (by omega)]
  · rw [net_cells hc (hr k hk) _ (hr i hi)]
    unfold up1
    by_cases e : i = k
    · rw [if_pos e, if_pos (by rw [e])]
    · rw [if_neg e, if_neg (by omega)]
  · rw [net_cells hc (hr k hk) _ (hd i hi), if_neg (by omega)]
theorem HuntAt.putD {w : World} {q root k : Nat} {far fr : Nat → Int} {dn : Nat → Bool} (h : HuntAt w q root far fr dn) (hk : k < 10) (x : Bool) : HuntAt (w.setCell ⟨q, 21 + k, none⟩ (.bool x)) q root far fr (up1 dn k x) := by
  obtain ⟨⟨cs, hc⟩, h0, hf, hr, hd⟩ := h
  refine ⟨⟨_, heap_setCell_same w q _ _ _ _ hc⟩, ?_, fun i hi => ?_, fun i hi => ?_, fun i hi => ?_⟩
  · rw [net_cells hc (hd k hk) _ h0, if_neg (by omega)]
  · rw [net_cells hc (hd k hk) _ (hf i hi), if_neg (by omega)]
  · rw [net_cells hc (hd k hk) _ (hr i hi), if_neg (by omega)]
  · rw [net_cells hc (hd k hk) _ (hd i hi)]
    unfold up1
    by_cases e : i = k
    · rw [if_pos e, if_pos (by rw [e])]
    · rw [if_neg e, if_neg (by omega)]
theorem TabAt.putU {w : World} {p n k : Nat} {vc : Value} {u v ow : Nat → Int} (h : TabAt w p n vc u v ow) (hk : k < 10) (x : Int) : TabAt (w.setCell ⟨p, 2 + k, none⟩ (.int .i64 x)) p n vc (up1 u k x) v ow := by
  obtain ⟨⟨cs, hc⟩, h0, h1, hu, hv, ho⟩ := h
  refine ⟨⟨_, heap_setCell_same w p _ _ _ _ hc⟩, ?_, ?_, fun i hi => ?_, fun i hi => ?_, fun i hi => ?_⟩
  · rw [net_cells hc (hu k hk) _ h0, if_neg (by omega)]
  · rw [net_cells hc (hu k hk) _ h1, if_neg (by omega)]
  · rw [net_cells hc (hu k hk) _ (hu i hi)]
    unfold up1
    by_cases e : i = k
    · rw [if_pos e, if_pos (by rw [e])]
    · rw [if_neg e, if_neg (by omega)]
  · rw [net_cells hc (hu k hk) _ (hv i hi), if_neg (by omega)]
  · rw [net_cells hc (hu k hk) _ (ho i hi), if_neg (by omega)]
theorem TabAt.putV {w : World} {p n k : Nat} {vc : Value} {u v ow : Nat → Int} (h : TabAt w p n vc u v ow) (hk : k < 10) (x : Int) : TabAt (w.setCell ⟨p, 12 + k, none⟩ (.int .i64 x)) p n vc u (up1 v k x) ow := by
  obtain ⟨⟨cs, hc⟩, h0, h1, hu, hv, ho⟩ := h
  refine ⟨⟨_, heap_setCell_same w p _ _ _ _ hc⟩, ?_, ?_, fun i hi => ?_, fun i hi => ?_, fun i hi => ?_⟩
  · rw [net_cells hc (hv k hk) _ h0, if_neg (by omega)]
  · rw [net_cells hc (hv k hk) _ h1, if_neg (by omega)]
  · rw [net_cells hc (hv k hk) _ (hu i hi), if_neg (by omega)]
  · rw [net_cells hc (hv k hk) _ (hv i hi)]
    unfold up1
    by_cases e : i = k
    · rw [if_pos e, if_pos (by rw [e])]
    · rw [if_neg e, if_neg (by omega)]
  · rw [net_cells hc (hv k hk) _ (ho i hi), if_neg (by omega)]
theorem TabAt.putO {w : World} {p n k : Nat} {vc : Value} {u v ow : Nat → Int} (h : TabAt w p n vc u v ow) (hk : k < 10) (x : Int) : TabAt (w.setCell ⟨p, 22 + k, none⟩ (.int .i64 x)) p n vc u v (up1 ow k x) := by
  obtain ⟨⟨cs, hc⟩, h0, h1, hu, hv, ho⟩ := h
  refine ⟨⟨_, heap_setCell_same w p _ _ _ _ hc⟩, ?_, ?_, fun i hi => ?_, fun i hi => ?_, fun i hi => ?_⟩
  · rw [net_cells hc (ho k hk) _ h0, if_neg (by omega)]
  · rw [net_cells hc (ho k hk) _ h1, if_neg (by omega)]
  · rw [net_cells hc (ho k hk) _ (hu i hi), if_neg (by omega)]
  · rw [net_cells hc (ho k hk) _ (hv i hi), if_neg (by omega)]
  · rw [net_cells hc (ho k hk) _ (ho i hi)]
    unfold up1
    by_cases e : i = k
    · rw [if_pos e, if_pos (by rw [e])]
    · rw [if_neg e, if_neg (by omega)]

theorem below_drewN' {B : Nat} {w w' : World} (h : Below B w w') (m : Nat) : Below B w (w'.drewN m) := ⟨h.os, h.tape, h.output, h.size, h.block⟩

set_option maxRecDepth 100000 in
set_option maxHeartbeats 2000000 in
theorem nearest_any (p q n root : Nat) (vc : Value) (u v ow far fr : Nat → Int) (dn : Nat → Bool) (w : World) (hn : n ≤ 10) (ht : TabAt w p n vc u v ow) (hh : HuntAt w q root far fr dn) :
    Calls Try.prog 76 #[.pointer (some ⟨p, 0, none⟩), .pointer (some ⟨q, 0, none⟩)] w fun e w' => e = .returned (.int .i64 (nearS n far dn)) ∧ Below w.heap.size w w' := by
  have HT := hid ht
  have HH := hid hh
  have hpl := ht.lt
  have hql := hh.lt
  clear ht hh
  go_enter Try.func76, Try.ntmps76
  go_wp2_with fail
  go_loopw [5, 6] (fun bv i wr => ∃ (k : Nat) (b : Int), k ≤ n ∧ i = .int .i64 k ∧ bv = .int .i64 b ∧ Hid (nearS k far dn = b) ∧ Hid (b = -1 ∨ ∃ m : Nat, b = m ∧ m < k) ∧ Hid (Below w.heap.size w wr)) (fun _ i _ => n - (intOf i).toNat)
  case atStart => exact ⟨0, -1, Nat.zero_le _, rfl, rfl, rfl, .inl rfl, Below.refl _ _⟩
  case round =>
    obtain ⟨k, b, hk, rfl, rfl, HN, HM, HB⟩ := hrel
    have HT1 := hid (HT.out.below HB.out)
    have HH1 := hid (HH.out.below HB.out)
    have t0 := HT1.out.c0
    have hpw := HT1.out.lt
    have hqw := HH1.out.lt
    by_cases hlt : k < n
    · have d0 := HH1.out.cd k (by omega)
      have f0 := HH1.out.cf k (by omega)
      have ik : (0 : Int) ≤ (k : Int) := by omega
      have jk : (k : Int) < 10 := by omega
      have HS : Hid (nearS (k + 1) far dn = nearStep far dn b k) := by show _ = _; rw [near_succ, HN.out]
      have HM2 : Hid (b = -1 ∨ ∃ m : Nat, b = m ∧ m < k + 1) := by
        rcases HM.out with h | ⟨m, h1, h2⟩
        · exact .inl h
        · exact .inr ⟨m, h1, by omega⟩
      cases hdk : dn k
      · rw [hdk] at d0
        by_cases hfk : far k = -1
        · have c1 : (far k == (-1 : Int)) = true := by simp [hfk]
          have HX : Hid (nearS (k + 1) far dn = b) := by show _ = _; rw [HS.out]; unfold nearStep; rw [if_pos (.inr hfk)]
          clear hfk HS
          go_wp2_with go_in
          go_roundw
          case rel => exact ⟨k + 1, b, by omega, by go_num, rfl, HX, HM2, by first | exact HB | exact HB.out.drew | exact below_drewN' HB.out _⟩
          case measure => simp [intOf]; omega
        · have c1 : (far k == (-1 : Int)) = false := by simpa using hfk
          by_cases hb1 : b = -1
          · have c2 : (b == (-1 : Int)) = true := by simp [hb1]
            have HX : Hid (nearS (k + 1) far dn = (k : Int)) := by
              show _ = _; rw [HS.out]; unfold nearStep
              rw [if_neg (by rintro (h | h); rw [hdk] at h; cases h; exact hfk h), if_pos (.inl hb1)]
            clear hfk hb1 HS
            go_wp2_with go_in
            go_quiet (fail)
            go_wp2
            go_roundw
            case rel => exact ⟨k + 1, (k : Int), by omega, by go_num, rfl, HX, .inr ⟨k, rfl, by omega⟩, by first | exact HB | exact HB.out.drew | exact below_drewN' HB.out _⟩
            case measure => simp [intOf]; omega
          · have c2 : (b == (-1 : Int)) = false := by simpa using hb1
            obtain ⟨m, rfl, hmk⟩ : ∃ m : Nat, b = m ∧ m < k := by
              rcases HM.out with h | h
              · exact absurd h hb1
              · exact h
            have f1 := HH1.out.cf m (by omega)
            have im : (0 : Int) ≤ (m : Int) := by omega
            have jm : (m : Int) < 10 := by omega
            by_cases hl : far k < far m
            · have HX : Hid (nearS (k + 1) far dn = (k : Int)) := by
                show _ = _; rw [HS.out]; unfold nearStep
                rw [if_neg (by rintro (h | h); rw [hdk] at h; cases h; exact hfk h), if_pos (.inr (by simpa using hl))]
              clear hfk hb1 HS
              go_wp2_with go_in
              go_quiet (fail)
              go_wp2
              go_roundw
              case rel => exact ⟨k + 1, (k : Int), by omega, by go_num, rfl, HX, .inr ⟨k, rfl, by omega⟩, by first | exact HB | exact HB.out.drew | exact below_drewN' HB.out _⟩
              case measure => simp [intOf]; omega
            · have HX : Hid (nearS (k + 1) far dn = (m : Int)) := by
                show _ = _; rw [HS.out]; unfold nearStep
                rw [if_neg (by rintro (h | h); rw [hdk] at h; cases h; exact hfk h), if_neg (by rintro (h | h); exact hb1 h; exact hl (by simpa using h))]
              clear hfk hb1 HS
              go_wp2_with go_in
              go_quiet (fail)
              go_wp2
              go_roundw
              case rel => exact ⟨k + 1, (m : Int), by omega, by go_num, rfl, HX, HM2, by first | exact HB | exact HB.out.drew | exact below_drewN' HB.out _⟩
              case measure => simp [intOf]; omega
      · rw [hdk] at d0
        have HX : Hid (nearS (k + 1) far dn = b) := by show _ = _; rw [HS.out]; unfold nearStep; rw [if_pos (.inl hdk)]
        clear HS
        go_wp2_with go_in
        go_roundw
        case rel => exact ⟨k + 1, b, by omega, by go_num, rfl, HX, HM2, by first | exact HB | exact HB.out.drew | exact below_drewN' HB.out _⟩
        case measure => simp [intOf]; omega
    · have HX : Hid (nearS n far dn = b) := by show _ = _; rw [← HN.out, show k = n by omega]
      go_wp2_with go_in
      go_ret
      exact ⟨ret_int HX.out.symm, HB.out⟩
end Go.Proofs.Ytebinaopncclgaa
namespace Go.Proofs.Ytebinaopncclgaa
open Go.RowKit Go.IntWalk

theorem sp_same (C : Nat → Nat → Int) (u v : Nat → Int) (row : Nat) (start : Int) (far : Nat → Int) (dn : Nat → Bool) (k : Nat) : spFar k C u v row start far dn k = far k := by
  unfold spFar; rw [if_neg (fun h => by have := h.1; omega)]
theorem sp_no {C : Nat → Nat → Int} {u v : Nat → Int} {row : Nat} {start : Int} {far : Nat → Int} {dn : Nat → Bool} {k : Nat} (frm : Int) (fr : Nat → Int) (h : ¬ (dn k = false ∧ C row k ≠ -1 ∧ (far k = -1 ∨ start + C row k - u row - v k < far k))) :
    spFar (k + 1) C u v row start far dn = spFar k C u v row start far dn ∧ spFr (k + 1) C u v row frm start far fr dn = spFr k C u v row frm start far fr dn := by
  have e : ∀ c, (spC (k + 1) C u v row start far dn c ↔ spC k C u v row start far dn c) := fun c => by
    unfold spC
    constructor
    · rintro ⟨h1, h2⟩
      by_cases e : c = k
      · subst e; exact absurd h2 h
      · exact ⟨by omega, h2⟩
    · rintro ⟨h1, h2⟩; exact ⟨by omega, h2⟩
  constructor <;> funext c
  · unfold spFar; simp only [e]
  · unfold spFr; simp only [e]
theorem sp_yes {C : Nat → Nat → Int} {u v : Nat → Int} {row : Nat} {start : Int} {far : Nat → Int} {dn : Nat → Bool} {k : Nat} (frm : Int) (fr : Nat → Int) (h : dn k = false ∧ C row k ≠ -1 ∧ (far k = -1 ∨ start + C row k - u row - v k < far k)) :
    spFar (k + 1) C u v row start far dn = up1 (spFar k C u v row start far dn) k (start + C row k - u row - v k) ∧ spFr (k + 1) C u v row frm start far fr dn = up1 (spFr k C u v row frm start far fr dn) k frm := by
  have e1 : ∀ c, c ≠ k → (spC (k + 1) C u v row start far dn c ↔ spC k C u v row start far dn c) := fun c hc => by
    unfold spC
    exact ⟨fun h => ⟨by omega, h.2⟩, fun h => ⟨by omega, h.2⟩⟩
  have e2 : spC (k + 1) C u v row start far dn k := ⟨by omega, h⟩
  constructor <;> funext c
  · unfold up1
    by_cases hc : c = k
    · subst hc; rw [if_pos rfl]; unfold spFar; rw [if_pos e2]
    · rw [if_neg hc]; unfold spFar; simp only [e1 c hc]
  · unfold up1
    by_cases hc : c = k
    · subst hc; rw [if_pos rfl]; unfold spFr; rw [if_pos e2]
    · rw [if_neg hc]; unfold spFr; simp only [e1 c hc]
theorem sp_zero (C : Nat → Nat → Int) (u v : Nat → Int) (row : Nat) (frm start : Int) (far fr : Nat → Int) (dn : Nat → Bool) : spFar 0 C u v row start far dn = far ∧ spFr 0 C u v row frm start far fr dn = fr := by
  constructor <;> funext c
  · unfold spFar; rw [if_neg (fun h => by have := h.1; omega)]
  · unfold spFr; rw [if_neg (fun h => by have := h.1; omega)]

set_option maxRecDepth 100000 in
set_option maxHeartbeats 4000000 in
theorem spread_any (p q n root row : Nat) (C : Nat → Nat → Int) (vc : Value) (u v ow far fr : Nat → Int) (dn : Nat → Bool) (frm start : Int) (wb w : World) (hn : n ≤ 10) (hrow : row < n) (hpq : p ≠ q) (hqb : wb.heap.size ≤ q) (hB : Below wb.heap.size wb w) (hsq : SqR wb vc n C)
    (hc : CellOk n C) (hs : -1000000000 ≤ start ∧ start ≤ 1000000000) (hu : ∀ i, i < n → -1000000000 ≤ u i ∧ u i ≤ 1000000000) (hv : ∀ i, i < n → -1000000000 ≤ v i ∧ v i ≤ 1000000000) (ht : TabAt w p n vc u v ow) (hh : HuntAt w q root far fr dn) :
    Calls Try.prog 75 #[.pointer (some ⟨p, 0, none⟩), .pointer (some ⟨q, 0, none⟩), .int .i64 row, .int .i64 frm, .int .i64 start] w fun e w' => e = .returned (.tuple #[]) ∧ HuntAt w' q root (spFar n C u v row start far dn) (spFr n C u v row frm start far fr dn) dn ∧ TabAt w' p n vc u v ow ∧ Below wb.heap.size wb w' := by
  have HT := hid ht
  have HH := hid hh
  have HB := hid hB
  have HC := hid hc
  have HU := hid hu
  have HV := hid hv
  obtain ⟨af, cf, rfl, _, hsq⟩ := hsq
  obtain ⟨fg, fgi, fci, rfl, hfg, hfc, hfgi, hfr⟩ := hsq row hrow
  have HFR := hid hfr
  have hub := hu row hrow
  clear ht hh hB hc hu hv hsq hfr
  go_enter Try.func75, Try.ntmps75
  go_wp2_with fail
  go_loopw [10] (fun i wr => ∃ k : Nat, k ≤ n ∧ i = .int .i64 k ∧ Hid (HuntAt wr q root (spFar k C u v row start far dn) (spFr k C u v row frm start far fr dn) dn) ∧ Hid (TabAt wr p n (.slice (some ⟨fg, 0, none⟩) n cf) u v ow) ∧ Hid (Below wb.heap.size wb wr)) (fun i _ => n - (intOf i).toNat)
  case atStart => exact ⟨0, Nat.zero_le _, rfl, by rw [(sp_zero C u v row frm start far fr dn).1, (sp_zero C u v row frm start far fr dn).2]; exact HH, HT, HB⟩
  case round =>
    clear HT HH HB
    obtain ⟨k, hk, rfl, HH, HT, HB⟩ := hrel
    have t0 := HT.out.c0
    have hpw := HT.out.lt
    have hqw := HH.out.lt
    by_cases hlt : k < n
    · have t1 := HT.out.c1
      have tu := HT.out.cu row (by omega)
      have tv := HT.out.cv k (by omega)
      have d0 := HH.out.cd k (by omega)
      have f0 := HH.out.cf k (by omega)
      have r0 := HH.out.cr k (by omega)
      have hfz := HH.out.frozen
      have hxd : wr.cell? ⟨fgi, k, none⟩ = _ := (HB.out.cell (by exact hfgi)).trans (HFR.out k hlt)
      have hxf : wr.cell? ⟨fg, row, none⟩ = _ := (HB.out.cell (by exact hfg)).trans hfc
      have hg1 : fg < wr.heap.size := Nat.lt_of_lt_of_le hfg HB.out.size
      have hg2 : fgi < wr.heap.size := Nat.lt_of_lt_of_le hfgi HB.out.size
      have hcb := HC.out row k hrow hlt
      have hvb := HV.out k hlt
      have ik : (0 : Int) ≤ (k : Int) := by omega
      have jk : (k : Int) < 10 := by omega
      have jkn : (k : Int) < (n : Int) := by omega
      have ir : (0 : Int) ≤ (row : Int) := by omega
      have jr : (row : Int) < 10 := by omega
      have jrn : (row : Int) < (n : Int) := by omega
      rw [sp_same] at f0
      have HNO := hid (sp_no (C := C) (u := u) (v := v) (row := row) (start := start) (far := far) (dn := dn) (k := k) frm fr)
      have HYES := hid (sp_yes (C := C) (u := u) (v := v) (row := row) (start := start) (far := far) (dn := dn) (k := k) frm fr)
      cases hdk : dn k
      · rw [hdk] at d0
        by_cases hcl : C row k = -1
        · have HX := hid (HNO.out (fun h => h.2.1 hcl))
          have c1 : (C row k == (-1 : Int)) = true := by simp [hcl]
          clear hcl HNO HYES
          go_wp2_with go_in
          go_roundw
          case rel => exact ⟨k + 1, by omega, by go_num, by rw [HX.out.1, HX.out.2]; first | exact HH | exact HH.out.block rfl, by first | exact HT | exact HT.out.block rfl, by first | exact HB | exact HB.out.drew⟩
          case measure => simp [intOf]; omega
        · have c1 : (C row k == (-1 : Int)) = false := by simpa using hcl
          obtain ⟨d, hd⟩ : ∃ d, d = C row k := ⟨_, rfl⟩
          rw [← hd] at hxd c1 hcb HNO HYES hcl
          obtain ⟨ur, hur⟩ : ∃ ur, ur = u row := ⟨_, rfl⟩
          rw [← hur] at tu hub HNO HYES
          obtain ⟨vk, hvk⟩ : ∃ vk, vk = v k := ⟨_, rfl⟩
          rw [← hvk] at tv hvb HNO HYES
          obtain ⟨fk, hfk⟩ : ∃ fk, fk = far k := ⟨_, rfl⟩
          rw [← hfk] at f0 HNO HYES
          have w1 : IntKind.i64.wrap (start + d) = start + d := i64_fits _ (by omega)
          have w2 : IntKind.i64.wrap (start + d - ur) = start + d - ur := i64_fits _ (by omega)
          have w3 : IntKind.i64.wrap (start + d - ur - vk) = start + d - ur - vk := i64_fits _ (by omega)
          clear hd hur hvk hfk
          by_cases hf1 : fk = -1
          · have e1 : (fk == (-1 : Int)) = true := by simp [hf1]
            have HX := hid (HYES.out ⟨hdk, hcl, .inl hf1⟩)
            clear hf1 HYES HNO hcl
            go_wp2_with go_in
            go_quiet (fail)
            go_wp2_with go_in
            go_roundw
            case rel => exact ⟨k + 1, by omega, by go_num, by rw [HX.out.1, HX.out.2]; exact ((HH.out.block (w' := wr.drewN _) rfl).putF (by omega) _).putR (by omega) _, ((HT.out.block (w' := wr.drewN _) rfl).aside hpq _).aside hpq _, ((below_drewN' HB.out _).setCell (by exact hqb) _).setCell (by exact hqb) _⟩
            case measure => simp [intOf]; omega
          · have e1 : (fk == (-1 : Int)) = false := by simpa using hf1
            by_cases hf2 : start + d - ur - vk < fk
            · have HX := hid (HYES.out ⟨hdk, hcl, .inr hf2⟩)
              clear hf1 HYES HNO hcl
              go_wp2_with go_in
              go_quiet (fail)
              go_wp2_with go_in
              go_roundw
              case rel => exact ⟨k + 1, by omega, by go_num, by rw [HX.out.1, HX.out.2]; exact ((HH.out.block (w' := wr.drewN _) rfl).putF (by omega) _).putR (by omega) _, ((HT.out.block (w' := wr.drewN _) rfl).aside hpq _).aside hpq _, ((below_drewN' HB.out _).setCell (by exact hqb) _).setCell (by exact hqb) _⟩
              case measure => simp [intOf]; omega
            · have HX := hid (HNO.out (fun h => by rcases h.2.2 with h | h; exact hf1 h; exact hf2 h))
              clear hf1 HYES HNO hcl
              go_wp2_with go_in
              go_quiet (fail)
              go_wp2_with go_in
              go_roundw
              case rel => exact ⟨k + 1, by omega, by go_num, by rw [HX.out.1, HX.out.2]; exact HH.out.block rfl, HT.out.block rfl, below_drewN' HB.out _⟩
              case measure => simp [intOf]; omega
      · rw [hdk] at d0
        have HX := hid (HNO.out (fun h => (by rw [hdk] at h; cases h.1)))
        clear HNO HYES
        go_wp2_with go_in
        go_roundw
        case rel => exact ⟨k + 1, by omega, by go_num, by rw [HX.out.1, HX.out.2]; first | exact HH | exact HH.out.block rfl, by first | exact HT | exact HT.out.block rfl, by first | exact HB | exact HB.out.drew⟩
        case measure => simp [intOf]; omega
    · have hke : k = n := by omega
      subst hke
      go_wp2_with go_in
      refine bodyPost_end (v := .tuple #[]) (by simp [results, Try.results75, go_sem]) rfl ?_
      exact ⟨rfl, HH.out, HT.out, HB.out⟩
end Go.Proofs.Ytebinaopncclgaa
