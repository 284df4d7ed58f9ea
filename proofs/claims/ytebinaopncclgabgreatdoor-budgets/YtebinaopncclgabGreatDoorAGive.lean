/- Walks: the columns are handed on. -/
import Derived.Test.YtebinaopncclgabGreatDoorAPlain
import Derived.Test.YtebinaopncclgabGreatDoorWaysZ
import Derived.BigQuiet
import Derived.Test.YtebinaopncclgabGreatDoorADet
namespace Go.Proofs.YtebinaopncclgabGreatDoor
open Go.RowKit Go.IntWalk

structure TabAt (w : World) (p n : Nat) (vc : Value) (u v ow : Nat → Int) : Prop where
  box : ∃ cs, w.heap[p]? = some (.cells cs 240 (0, 0))
  c0 : w.cell? ⟨p, 0, none⟩ = some (.int .i64 n)
  c1 : w.cell? ⟨p, 1, none⟩ = some vc
  cu : ∀ i, i < 10 → w.cell? ⟨p, 2 + i, none⟩ = some (.int .i64 (u i))
  cv : ∀ i, i < 10 → w.cell? ⟨p, 12 + i, none⟩ = some (.int .i64 (v i))
  co : ∀ i, i < 10 → w.cell? ⟨p, 22 + i, none⟩ = some (.int .i64 (ow i))
structure HuntAt (w : World) (q root : Nat) (far fr : Nat → Int) (dn : Nat → Bool) : Prop where
  box : ∃ cs, w.heap[q]? = some (.cells cs 244 (0, 0))
  c0 : w.cell? ⟨q, 0, none⟩ = some (.int .i64 root)
  cf : ∀ i, i < 10 → w.cell? ⟨q, 1 + i, none⟩ = some (.int .i64 (far i))
  cr : ∀ i, i < 10 → w.cell? ⟨q, 11 + i, none⟩ = some (.int .i64 (fr i))
  cd : ∀ i, i < 10 → w.cell? ⟨q, 21 + i, none⟩ = some (.bool (dn i))
theorem TabAt.lt {w : World} {p n : Nat} {vc : Value} {u v ow : Nat → Int} (h : TabAt w p n vc u v ow) : p < w.heap.size := by obtain ⟨cs, hc⟩ := h.box; exact (Array.getElem?_eq_some_iff.1 hc).1
theorem HuntAt.lt {w : World} {q root : Nat} {far fr : Nat → Int} {dn : Nat → Bool} (h : HuntAt w q root far fr dn) : q < w.heap.size := by obtain ⟨cs, hc⟩ := h.box; exact (Array.getElem?_eq_some_iff.1 hc).1
theorem TabAt.frozen {w : World} {p n : Nat} {vc : Value} {u v ow : Nat → Int} (h : TabAt w p n vc u v ow) (k : Nat) : w.frozen? ⟨p, k, none⟩ = false := by obtain ⟨cs, hc⟩ := h.box; exact frozen_of_row w p k _ _ hc
theorem HuntAt.frozen {w : World} {q root : Nat} {far fr : Nat → Int} {dn : Nat → Bool} (h : HuntAt w q root far fr dn) (k : Nat) : w.frozen? ⟨q, k, none⟩ = false := by obtain ⟨cs, hc⟩ := h.box; exact frozen_of_row w q k _ _ hc
theorem TabAt.block {w w' : World} {p n : Nat} {vc : Value} {u v ow : Nat → Int} (h : TabAt w p n vc u v ow) (hb : w'.heap[p]? = w.heap[p]?) : TabAt w' p n vc u v ow := by
  have hc : ∀ o, w'.cell? ⟨p, o, none⟩ = w.cell? ⟨p, o, none⟩ := fun o => World.cell?_of_block (a := ⟨p, o, none⟩) hb
  obtain ⟨cs, hcs⟩ := h.box
  exact ⟨⟨cs, hb.trans hcs⟩, (hc _).trans h.c0, (hc _).trans h.c1, fun i hi => (hc _).trans (h.cu i hi), fun i hi => (hc _).trans (h.cv i hi), fun i hi => (hc _).trans (h.co i hi)⟩
theorem HuntAt.block {w w' : World} {q root : Nat} {far fr : Nat → Int} {dn : Nat → Bool} (h : HuntAt w q root far fr dn) (hb : w'.heap[q]? = w.heap[q]?) : HuntAt w' q root far fr dn := by
  have hc : ∀ o, w'.cell? ⟨q, o, none⟩ = w.cell? ⟨q, o, none⟩ := fun o => World.cell?_of_block (a := ⟨q, o, none⟩) hb
  obtain ⟨cs, hcs⟩ := h.box
  exact ⟨⟨cs, hb.trans hcs⟩, (hc _).trans h.c0, fun i hi => (hc _).trans (h.cf i hi), fun i hi => (hc _).trans (h.cr i hi), fun i hi => (hc _).trans (h.cd i hi)⟩
theorem TabAt.below {w w' : World} {p n : Nat} {vc : Value} {u v ow : Nat → Int} (h : TabAt w p n vc u v ow) (hb : Below w.heap.size w w') : TabAt w' p n vc u v ow := h.block (hb.block _ h.lt)
theorem HuntAt.below {w w' : World} {q root : Nat} {far fr : Nat → Int} {dn : Nat → Bool} (h : HuntAt w q root far fr dn) (hb : Below w.heap.size w w') : HuntAt w' q root far fr dn := h.block (hb.block _ h.lt)
theorem TabAt.aside {w : World} {p q n o : Nat} {vc : Value} {u v ow : Nat → Int} (h : TabAt w p n vc u v ow) (hne : p ≠ q) (x : Value) : TabAt (w.setCell ⟨q, o, none⟩ x) p n vc u v ow := h.block (Below.heap_setCell _ _ _ _ (by exact hne))
theorem HuntAt.aside {w : World} {p q root o : Nat} {far fr : Nat → Int} {dn : Nat → Bool} (h : HuntAt w q root far fr dn) (hne : q ≠ p) (x : Value) : HuntAt (w.setCell ⟨p, o, none⟩ x) q root far fr dn := h.block (Below.heap_setCell _ _ _ _ (by exact hne))
theorem HuntAt.putF {w : World} {q root k : Nat} {far fr : Nat → Int} {dn : Nat → Bool} (h : HuntAt w q root far fr dn) (hk : k < 10) (x : Int) : HuntAt (w.setCell ⟨q, 1 + k, none⟩ (.int .i64 x)) q root (up1 far k x) fr dn := by
  obtain ⟨⟨cs, hc⟩, h0, hf, hr, hd⟩ := h
  refine ⟨⟨_, heap_setCell_same w q _ _ _ _ hc⟩, ?_, fun i hi => ?_, fun i hi => ?_, fun i hi => ?_⟩
  · rw [net_cells hc (hf k hk) _ h0, if_neg (by omega)]
  · rw [net_cells hc (hf k hk) _ (hf i hi)]
    unfold up1
    by_cases e : i = k
    · rw [if_pos e, if_pos (by rw [e])]
    · rw [if_neg e, if_neg (by omega)]
  · rw [net_cells hc (hf k hk) _ (hr i hi), if_neg (by omega)]
  · rw [net_cells hc (hf k hk) _ (hd i hi), if_neg (by omega)]
theorem HuntAt.putR {w : World} {q root k : Nat} {far fr : Nat → Int} {dn : Nat → Bool} (h : HuntAt w q root far fr dn) (hk : k < 10) (x : Int) : HuntAt (w.setCell ⟨q, 11 + k, none⟩ (.int .i64 x)) q root far (up1 fr k x) dn := by
  obtain ⟨⟨cs, hc⟩, h0, hf, hr, hd⟩ := h
  refine ⟨⟨_, heap_setCell_same w q _ _ _ _ hc⟩, ?_, fun i hi => ?_, fun i hi => ?_, fun i hi => ?_⟩
  · rw [net_cells hc (hr k hk) _ h0, if_neg (by omega)]
  · rw [net_cells hc (hr k hk) _ (hf i hi), if_neg (by omega)]
  · rw [net_cells hc (hr k hk) _ (hr i hi)]
    unfold up1
    by_cases e : i = k
    · rw [if_pos e, if_pos (by rw [e])]
    · rw [if_neg e, if_neg (by omega)]
  · rw [net_cells hc (hr k hk) _ (hd i hi), if_neg (by omega)]
theorem HuntAt.putD {w : World} {q root k : Nat} {far fr : Nat → Int} {dn : Nat → Bool} (h : HuntAt w q root far fr dn) (hk : k < 10) (x : Bool) : HuntAt (w.setCell ⟨q, 21 + k, none⟩ (.bool x)) q root far fr (up1 dn k x) := by
  obtain ⟨⟨cs, hc⟩, h0, hf, hr, hd⟩ := h
  refine ⟨⟨_, heap_setCell_same w q _ _ _ _ hc⟩, ?_, fun i hi => ?_, fun i hi => ?_, fun i hi => ?_⟩
  · rw [net_cells hc (hd k hk) _ h0, if_neg (by omega)]
  · rw [net_cells hc (hd k hk) _ (hf i hi), if_neg (by omega)]
  · rw [net_cells hc (hd k hk) _ (hr i hi), if_neg (by omega)]
  · rw [net_cells hc (hd k hk) _ (hd i hi)]
    unfold up1
    by_cases e : i = k
    · rw [if_pos e, if_pos (by rw [e])]
    · rw [if_neg e, if_neg (by omega)]
theorem TabAt.putU {w : World} {p n k : Nat} {vc : Value} {u v ow : Nat → Int} (h : TabAt w p n vc u v ow) (hk : k < 10) (x : Int) : TabAt (w.setCell ⟨p, 2 + k, none⟩ (.int .i64 x)) p n vc (up1 u k x) v ow := by
  obtain ⟨⟨cs, hc⟩, h0, h1, hu, hv, ho⟩ := h
  refine ⟨⟨_, heap_setCell_same w p _ _ _ _ hc⟩, ?_, ?_, fun i hi => ?_, fun i hi => ?_, fun i hi => ?_⟩
  · rw [net_cells hc (hu k hk) _ h0, if_neg (by omega)]
  · rw [net_cells hc (hu k hk) _ h1, if_neg (by omega)]
  · rw [net_cells hc (hu k hk) _ (hu i hi)]
    unfold up1
    by_cases e : i = k
    · rw [if_pos e, if_pos (by rw [e])]
    · rw [if_neg e, if_neg (by omega)]
  · rw [net_cells hc (hu k hk) _ (hv i hi), if_neg (by omega)]
  · rw [net_cells hc (hu k hk) _ (ho i hi), if_neg (by omega)]
theorem TabAt.putV {w : World} {p n k : Nat} {vc : Value} {u v ow : Nat → Int} (h : TabAt w p n vc u v ow) (hk : k < 10) (x : Int) : TabAt (w.setCell ⟨p, 12 + k, none⟩ (.int .i64 x)) p n vc u (up1 v k x) ow := by
  obtain ⟨⟨cs, hc⟩, h0, h1, hu, hv, ho⟩ := h
  refine ⟨⟨_, heap_setCell_same w p _ _ _ _ hc⟩, ?_, ?_, fun i hi => ?_, fun i hi => ?_, fun i hi => ?_⟩
  · rw [net_cells hc (hv k hk) _ h0, if_neg (by omega)]
  · rw [net_cells hc (hv k hk) _ h1, if_neg (by omega)]
  · rw [net_cells hc (hv k hk) _ (hu i hi), if_neg (by omega)]
  · rw [net_cells hc (hv k hk) _ (hv i hi)]
    unfold up1
    by_cases e : i = k
    · rw [if_pos e, if_pos (by rw [e])]
    · rw [if_neg e, if_neg (by omega)]
  · rw [net_cells hc (hv k hk) _ (ho i hi), if_neg (by omega)]
theorem TabAt.putO {w : World} {p n k : Nat} {vc : Value} {u v ow : Nat → Int} (h : TabAt w p n vc u v ow) (hk : k < 10) (x : Int) : TabAt (w.setCell ⟨p, 22 + k, none⟩ (.int .i64 x)) p n vc u v (up1 ow k x) := by
  obtain ⟨⟨cs, hc⟩, h0, h1, hu, hv, ho⟩ := h
  refine ⟨⟨_, heap_setCell_same w p _ _ _ _ hc⟩, ?_, ?_, fun i hi => ?_, fun i hi => ?_, fun i hi => ?_⟩
  · rw [net_cells hc (ho k hk) _ h0, if_neg (by omega)]
  · rw [net_cells hc (ho k hk) _ h1, if_neg (by omega)]
  · rw [net_cells hc (ho k hk) _ (hu i hi), if_neg (by omega)]
  · rw [net_cells hc (ho k hk) _ (hv i hi), if_neg (by omega)]
  · rw [net_cells hc (ho k hk) _ (ho i hi)]
    unfold up1
    by_cases e : i = k
    · rw [if_pos e, if_pos (by rw [e])]
    · rw [if_neg e, if_neg (by omega)]

theorem below_drewN' {B : Nat} {w w' : World} (h : Below B w w') (m : Nat) : Below B w (w'.drewN m) := ⟨h.os, h.tape, h.output, h.size, h.block⟩

set_option maxRecDepth 100000 in
set_option maxHeartbeats 2000000 in
theorem nearest_any (p q n root : Nat) (vc : Value) (u v ow far fr : Nat → Int) (dn : Nat → Bool) (w : World) (hn : n ≤ 10) (ht : TabAt w p n vc u v ow) (hh : HuntAt w q root far fr dn) :
    Calls Tryz.prog 208 #[.pointer (some ⟨p, 0, none⟩), .pointer (some ⟨q, 0, none⟩)] w fun e w' => e = .returned (.int .i64 (nearS n far dn)) ∧ Below w.heap.size w w' := by
  have HT := hid ht
  have HH := hid hh
  have hpl := ht.lt
  have hql := hh.lt
  clear ht hh
  go_enter Tryz.func208, Tryz.ntmps208
  go_wp2_with fail
  go_loopw [5, 6] (fun bv i wr => ∃ (k : Nat) (b : Int), k ≤ n ∧ i = .int .i64 k ∧ bv = .int .i64 b ∧ Hid (nearS k far dn = b) ∧ Hid (b = -1 ∨ ∃ m : Nat, b = m ∧ m < k) ∧ Hid (Below w.heap.size w wr)) (fun _ i _ => n - (intOf i).toNat)
  case atStart => exact ⟨0, -1, Nat.zero_le _, rfl, rfl, rfl, .inl rfl, Below.refl _ _⟩
  case round =>
    obtain ⟨k, b, hk, rfl, rfl, HN, HM, HB⟩ := hrel
    have HT1 := hid (HT.out.below HB.out)
    have HH1 := hid (HH.out.below HB.out)
    have t0 := HT1.out.c0
    have hpw := HT1.out.lt
    have hqw := HH1.out.lt
    by_cases hlt : k < n
    · have d0 := HH1.out.cd k (by omega)
      have f0 := HH1.out.cf k (by omega)
      have ik : (0 : Int) ≤ (k : Int) := by omega
      have jk : (k : Int) < 10 := by omega
      have HS : Hid (nearS (k + 1) far dn = nearStep far dn b k) := by show _ = _; rw [near_succ, HN.out]
      have HM2 : Hid (b = -1 ∨ ∃ m : Nat, b = m ∧ m < k + 1) := by
        rcases HM.out with h | ⟨m, h1, h2⟩
        · exact .inl h
        · exact .inr ⟨m, h1, by omega⟩
      cases hdk : dn k
      · rw [hdk] at d0
        by_cases hfk : far k = -1
        · have c1 : (far k == (-1 : Int)) = true := by simp [hfk]
          have HX : Hid (nearS (k + 1) far dn = b) := by show _ = _; rw [HS.out]; unfold nearStep; rw [if_pos (.inr hfk)]
          clear hfk HS
          go_wp2_with go_in
          go_roundw
          case rel => exact ⟨k + 1, b, by omega, by go_num, rfl, HX, HM2, by first | exact HB | exact HB.out.drew | exact below_drewN' HB.out _⟩
          case measure => simp [intOf]; omega
        · have c1 : (far k == (-1 : Int)) = false := by simpa using hfk
          by_cases hb1 : b = -1
          · have c2 : (b == (-1 : Int)) = true := by simp [hb1]
            have HX : Hid (nearS (k + 1) far dn = (k : Int)) := by
              show _ = _; rw [HS.out]; unfold nearStep
              rw [if_neg (by rintro (h | h); rw [hdk] at h; cases h; exact hfk h), if_pos (.inl hb1)]
            clear hfk hb1 HS
            go_wp2_with go_in
            go_quiet (fail)
            go_wp2
            go_roundw
            case rel => exact ⟨k + 1, (k : Int), by omega, by go_num, rfl, HX, .inr ⟨k, rfl, by omega⟩, by first | exact HB | exact HB.out.drew | exact below_drewN' HB.out _⟩
            case measure => simp [intOf]; omega
          · have c2 : (b == (-1 : Int)) = false := by simpa using hb1
            obtain ⟨m, rfl, hmk⟩ : ∃ m : Nat, b = m ∧ m < k := by
              rcases HM.out with h | h
              · exact absurd h hb1
              · exact h
            have f1 := HH1.out.cf m (by omega)
            have im : (0 : Int) ≤ (m : Int) := by omega
            have jm : (m : Int) < 10 := by omega
            by_cases hl : far k < far m
            · have HX : Hid (nearS (k + 1) far dn = (k : Int)) := by
                show _ = _; rw [HS.out]; unfold nearStep
                rw [if_neg (by rintro (h | h); rw [hdk] at h; cases h; exact hfk h), if_pos (.inr (by simpa using hl))]
              clear hfk hb1 HS
              go_wp2_with go_in
              go_quiet (fail)
              go_wp2
              go_roundw
              case rel => exact ⟨k + 1, (k : Int), by omega, by go_num, rfl, HX, .inr ⟨k, rfl, by omega⟩, by first | exact HB | exact HB.out.drew | exact below_drewN' HB.out _⟩
              case measure => simp [intOf]; omega
            · have HX : Hid (nearS (k + 1) far dn = (m : Int)) := by
                show _ = _; rw [HS.out]; unfold nearStep
                rw [if_neg (by rintro (h | h); rw [hdk] at h; cases h; exact hfk h), if_neg (by rintro (h | h); exact hb1 h; exact hl (by simpa using h))]
              clear hfk hb1 HS
              go_wp2_with go_in
              go_quiet (fail)
              go_wp2
              go_roundw
              case rel => exact ⟨k + 1, (m : Int), by omega, by go_num, rfl, HX, HM2, by first | exact HB | exact HB.out.drew | exact below_drewN' HB.out _⟩
              case measure => simp [intOf]; omega
      · rw [hdk] at d0
        have HX : Hid (nearS (k + 1) far dn = b) := by show _ = _; rw [HS.out]; unfold nearStep; rw [if_pos (.inl hdk)]
        clear HS
        go_wp2_with go_in
        go_roundw
        case rel => exact ⟨k + 1, b, by omega, by go_num, rfl, HX, HM2, by first | exact HB | exact HB.out.drew | exact below_drewN' HB.out _⟩
        case measure => simp [intOf]; omega
    · have HX : Hid (nearS n far dn = b) := by show _ = _; rw [← HN.out, show k = n by omega]
      go_wp2_with go_in
      go_ret
      exact ⟨ret_int HX.out.symm, HB.out⟩
end Go.Proofs.YtebinaopncclgabGreatDoor
namespace Go.Proofs.YtebinaopncclgabGreatDoor
open Go.RowKit Go.IntWalk

theorem sp_same (C : Nat → Nat → Int) (u v : Nat → Int) (row : Nat) (start : Int) (far : Nat → Int) (dn : Nat → Bool) (k : Nat) : spFar k C u v row start far dn k = far k := by
  unfold spFar; rw [if_neg (fun h => by have := h.1; omega)]
theorem sp_no {C : Nat → Nat → Int} {u v : Nat → Int} {row : Nat} {start : Int} {far : Nat → Int} {dn : Nat → Bool} {k : Nat} (frm : Int) (fr : Nat → Int) (h : ¬ (dn k = false ∧ C row k ≠ -1 ∧ (far k = -1 ∨ start + C row k - u row - v k < far k))) :
    spFar (k + 1) C u v row start far dn = spFar k C u v row start far dn ∧ spFr (k + 1) C u v row frm start far fr dn = spFr k C u v row frm start far fr dn := by
  have e : ∀ c, (spC (k + 1) C u v row start far dn c ↔ spC k C u v row start far dn c) := fun c => by
    unfold spC
    constructor
    · rintro ⟨h1, h2⟩
      by_cases e : c = k
      · subst e; exact absurd h2 h
      · exact ⟨by omega, h2⟩
    · rintro ⟨h1, h2⟩; exact ⟨by omega, h2⟩
  constructor <;> funext c
  · unfold spFar; simp only [e]
  · unfold spFr; simp only [e]
theorem sp_yes {C : Nat → Nat → Int} {u v : Nat → Int} {row : Nat} {start : Int} {far : Nat → Int} {dn : Nat → Bool} {k : Nat} (frm : Int) (fr : Nat → Int) (h : dn k = false ∧ C row k ≠ -1 ∧ (far k = -1 ∨ start + C row k - u row - v k < far k)) :
    spFar (k + 1) C u v row start far dn = up1 (spFar k C u v row start far dn) k (start + C row k - u row - v k) ∧ spFr (k + 1) C u v row frm start far fr dn = up1 (spFr k C u v row frm start far fr dn) k frm := by
  have e1 : ∀ c, c ≠ k → (spC (k + 1) C u v row start far dn c ↔ spC k C u v row start far dn c) := fun c hc => by
    unfold spC
    exact ⟨fun h => ⟨by omega, h.2⟩, fun h => ⟨by omega, h.2⟩⟩
  have e2 : spC (k + 1) C u v row start far dn k := ⟨by omega, h⟩
  constructor <;> funext c
  · unfold up1
    by_cases hc : c = k
    · subst hc; rw [if_pos rfl]; unfold spFar; rw [if_pos e2]
    · rw [if_neg hc]; unfold spFar; simp only [e1 c hc]
  · unfold up1
    by_cases hc : c = k
    · subst hc; rw [if_pos rfl]; unfold spFr; rw [if_pos e2]
    · rw [if_neg hc]; unfold spFr; simp only [e1 c hc]
theorem sp_zero (C : Nat → Nat → Int) (u v : Nat → Int) (row : Nat) (frm start : Int) (far fr : Nat → Int) (dn : Nat → Bool) : spFar 0 C u v row start far dn = far ∧ spFr 0 C u v row frm start far fr dn = fr := by
  constructor <;> funext c
  · unfold spFar; rw [if_neg (fun h => by have := h.1; omega)]
  · unfold spFr; rw [if_neg (fun h => by have := h.1; omega)]

set_option maxRecDepth 100000 in
set_option maxHeartbeats 4000000 in
theorem spread_any (p q n root row : Nat) (C : Nat → Nat → Int) (vc : Value) (u v ow far fr : Nat → Int) (dn : Nat → Bool) (frm start : Int) (wb w : World) (hn : n ≤ 10) (hrow : row < n) (hpq : p ≠ q) (hqb : wb.heap.size ≤ q) (hB : Below wb.heap.size wb w) (hsq : SqR wb vc n C)
    (hc : CellOk n C) (hs : -1000000000 ≤ start ∧ start ≤ 1000000000) (hu : ∀ i, i < n → -1000000000 ≤ u i ∧ u i ≤ 1000000000) (hv : ∀ i, i < n → -1000000000 ≤ v i ∧ v i ≤ 1000000000) (ht : TabAt w p n vc u v ow) (hh : HuntAt w q root far fr dn) :
    Calls Tryz.prog 207 #[.pointer (some ⟨p, 0, none⟩), .pointer (some ⟨q, 0, none⟩), .int .i64 row, .int .i64 frm, .int .i64 start] w fun e w' => e = .returned (.tuple #[]) ∧ HuntAt w' q root (spFar n C u v row start far dn) (spFr n C u v row frm start far fr dn) dn ∧ TabAt w' p n vc u v ow ∧ Below wb.heap.size wb w' := by
  have HT := hid ht
  have HH := hid hh
  have HB := hid hB
  have HC := hid hc
  have HU := hid hu
  have HV := hid hv
  obtain ⟨af, cf, rfl, _, hsq⟩ := hsq
  obtain ⟨fg, fgi, fci, rfl, hfg, hfc, hfgi, hfr⟩ := hsq row hrow
  have HFR := hid hfr
  have hub := hu row hrow
  clear ht hh hB hc hu hv hsq hfr
  go_enter Tryz.func207, Tryz.ntmps207
  go_wp2_with fail
  go_loopw [10] (fun i wr => ∃ k : Nat, k ≤ n ∧ i = .int .i64 k ∧ Hid (HuntAt wr q root (spFar k C u v row start far dn) (spFr k C u v row frm start far fr dn) dn) ∧ Hid (TabAt wr p n (.slice (some ⟨fg, 0, none⟩) n cf) u v ow) ∧ Hid (Below wb.heap.size wb wr)) (fun i _ => n - (intOf i).toNat)
  case atStart => exact ⟨0, Nat.zero_le _, rfl, by rw [(sp_zero C u v row frm start far fr dn).1, (sp_zero C u v row frm start far fr dn).2]; exact HH, HT, HB⟩
  case round =>
    clear HT HH HB
    obtain ⟨k, hk, rfl, HH, HT, HB⟩ := hrel
    have t0 := HT.out.c0
    have hpw := HT.out.lt
    have hqw := HH.out.lt
    by_cases hlt : k < n
    · have t1 := HT.out.c1
      have tu := HT.out.cu row (by omega)
      have tv := HT.out.cv k (by omega)
      have d0 := HH.out.cd k (by omega)
      have f0 := HH.out.cf k (by omega)
      have r0 := HH.out.cr k (by omega)
      have hfz := HH.out.frozen
      have hxd : wr.cell? ⟨fgi, k, none⟩ = _ := (HB.out.cell (by exact hfgi)).trans (HFR.out k hlt)
      have hxf : wr.cell? ⟨fg, row, none⟩ = _ := (HB.out.cell (by exact hfg)).trans hfc
      have hg1 : fg < wr.heap.size := Nat.lt_of_lt_of_le hfg HB.out.size
      have hg2 : fgi < wr.heap.size := Nat.lt_of_lt_of_le hfgi HB.out.size
      have hcb := HC.out row k hrow hlt
      have hvb := HV.out k hlt
      have ik : (0 : Int) ≤ (k : Int) := by omega
      have jk : (k : Int) < 10 := by omega
      have jkn : (k : Int) < (n : Int) := by omega
      have ir : (0 : Int) ≤ (row : Int) := by omega
      have jr : (row : Int) < 10 := by omega
      have jrn : (row : Int) < (n : Int) := by omega
      rw [sp_same] at f0
      have HNO := hid (sp_no (C := C) (u := u) (v := v) (row := row) (start := start) (far := far) (dn := dn) (k := k) frm fr)
      have HYES := hid (sp_yes (C := C) (u := u) (v := v) (row := row) (start := start) (far := far) (dn := dn) (k := k) frm fr)
      cases hdk : dn k
      · rw [hdk] at d0
        by_cases hcl : C row k = -1
        · have HX := hid (HNO.out (fun h => h.2.1 hcl))
          have c1 : (C row k == (-1 : Int)) = true := by simp [hcl]
          clear hcl HNO HYES
          go_wp2_with go_in
          go_roundw
          case rel => exact ⟨k + 1, by omega, by go_num, by rw [HX.out.1, HX.out.2]; first | exact HH | exact HH.out.block rfl, by first | exact HT | exact HT.out.block rfl, by first | exact HB | exact HB.out.drew⟩
          case measure => simp [intOf]; omega
        · have c1 : (C row k == (-1 : Int)) = false := by simpa using hcl
          obtain ⟨d, hd⟩ : ∃ d, d = C row k := ⟨_, rfl⟩
          rw [← hd] at hxd c1 hcb HNO HYES hcl
          obtain ⟨ur, hur⟩ : ∃ ur, ur = u row := ⟨_, rfl⟩
          rw [← hur] at tu hub HNO HYES
          obtain ⟨vk, hvk⟩ : ∃ vk, vk = v k := ⟨_, rfl⟩
          rw [← hvk] at tv hvb HNO HYES
          obtain ⟨fk, hfk⟩ : ∃ fk, fk = far k := ⟨_, rfl⟩
          rw [← hfk] at f0 HNO HYES
          have w1 : IntKind.i64.wrap (start + d) = start + d := i64_fits _ (by omega)
          have w2 : IntKind.i64.wrap (start + d - ur) = start + d - ur := i64_fits _ (by omega)
          have w3 : IntKind.i64.wrap (start + d - ur - vk) = start + d - ur - vk := i64_fits _ (by omega)
          clear hd hur hvk hfk
          by_cases hf1 : fk = -1
          · have e1 : (fk == (-1 : Int)) = true := by simp [hf1]
            have HX := hid (HYES.out ⟨hdk, hcl, .inl hf1⟩)
            clear hf1 HYES HNO hcl
            go_wp2_with go_in
            go_quiet (fail)
            go_wp2_with go_in
            go_roundw
            case rel => exact ⟨k + 1, by omega, by go_num, by rw [HX.out.1, HX.out.2]; exact ((HH.out.block (w' := wr.drewN _) rfl).putF (by omega) _).putR (by omega) _, ((HT.out.block (w' := wr.drewN _) rfl).aside hpq _).aside hpq _, ((below_drewN' HB.out _).setCell (by exact hqb) _).setCell (by exact hqb) _⟩
            case measure => simp [intOf]; omega
          · have e1 : (fk == (-1 : Int)) = false := by simpa using hf1
            by_cases hf2 : start + d - ur - vk < fk
            · have HX := hid (HYES.out ⟨hdk, hcl, .inr hf2⟩)
              clear hf1 HYES HNO hcl
              go_wp2_with go_in
              go_quiet (fail)
              go_wp2_with go_in
              go_roundw
              case rel => exact ⟨k + 1, by omega, by go_num, by rw [HX.out.1, HX.out.2]; exact ((HH.out.block (w' := wr.drewN _) rfl).putF (by omega) _).putR (by omega) _, ((HT.out.block (w' := wr.drewN _) rfl).aside hpq _).aside hpq _, ((below_drewN' HB.out _).setCell (by exact hqb) _).setCell (by exact hqb) _⟩
              case measure => simp [intOf]; omega
            · have HX := hid (HNO.out (fun h => by rcases h.2.2 with h | h; exact hf1 h; exact hf2 h))
              clear hf1 HYES HNO hcl
              go_wp2_with go_in
              go_quiet (fail)
              go_wp2_with go_in
              go_roundw
              case rel => exact ⟨k + 1, by omega, by go_num, by rw [HX.out.1, HX.out.2]; exact HH.out.block rfl, HT.out.block rfl, below_drewN' HB.out _⟩
              case measure => simp [intOf]; omega
      · rw [hdk] at d0
        have HX := hid (HNO.out (fun h => (by rw [hdk] at h; cases h.1)))
        clear HNO HYES
        go_wp2_with go_in
        go_roundw
        case rel => exact ⟨k + 1, by omega, by go_num, by rw [HX.out.1, HX.out.2]; first | exact HH | exact HH.out.block rfl, by first | exact HT | exact HT.out.block rfl, by first | exact HB | exact HB.out.drew⟩
        case measure => simp [intOf]; omega
    · have hke : k = n := by omega
      subst hke
      go_wp2_with go_in
      refine bodyPost_end (v := .tuple #[]) (by simp [results, Tryz.results207, go_sem]) rfl ?_
      exact ⟨rfl, HH.out, HT.out, HB.out⟩
end Go.Proofs.YtebinaopncclgabGreatDoor
namespace Go.Proofs.YtebinaopncclgabGreatDoor
open Go.RowKit Go.IntWalk

open Classical in
noncomputable def doneAt (w : World) (q n : Nat) : Nat := ((List.range n).filter fun i => decide (w.cell? ⟨q, 21 + i, none⟩ = some (.bool true))).length
theorem doneAt_of {w : World} {q root n : Nat} {far fr : Nat → Int} {dn : Nat → Bool} (h : HuntAt w q root far fr dn) (hn : n ≤ 10) : doneAt w q n = dnN n dn := by
  unfold doneAt dnN
  congr 1
  apply List.filter_congr
  intro i hi
  have hi2 : i < n := by simpa using hi
  rw [h.cd i (by omega)]
  cases dn i <;> simp
theorem HInv.mark {n : Nat} {C : Nat → Nat → Int} {u v ow : Nat → Int} {root : Nat} {far fr : Nat → Int} {dn : Nat → Bool} {ord : Nat → Nat} {cnt k : Nat}
    (h : HInv n C u v ow root far fr dn ord cnt (fun c => dn c = true)) (hk : k < n) (hd : dn k = false) (hf : far k ≠ -1) (hm : ∀ c, c < n → dn c = false → far c ≠ -1 → far k ≤ far c) :
    HInv n C u v ow root far fr (up1 dn k true) (up1 ord k cnt) (cnt + 1) (fun c => up1 dn k true c = true ∧ c ≠ k) := by
  have e : (fun c => up1 dn k true c = true ∧ c ≠ k) = fun c => dn c = true := by
    funext c
    apply propext
    unfold up1
    by_cases h : c = k
    · subst h; simp [hd]
    · simp [h]
  rw [e]; exact hunt_mark h hk hd hf hm
theorem TInv.ub {n : Nat} {C : Nat → Nat → Int} {u v ow : Nat → Int} {root : Nat} (h : TInv n C u v ow root) (hn : n ≤ 10) (hr : root ≤ n) : (∀ i, i < n → 0 ≤ u i ∧ u i ≤ 20000000) ∧ (∀ i, i < n → -20000000 ≤ v i ∧ v i ≤ 0) := by
  have : (root : Int) * 2000000 ≤ 20000000 := by omega
  exact ⟨fun i hi => ⟨h.upos i hi, by have := h.ubd i hi; omega⟩, fun i hi => ⟨by have := h.vbd i hi; omega, h.vneg i hi⟩⟩
theorem HInv.end_ {n : Nat} {C : Nat → Nat → Int} {u v ow : Nat → Int} {root : Nat} {far fr : Nat → Int} {dn : Nat → Bool} {ord : Nat → Nat} {k : Nat} (hn : n ≤ 10) (ht : TInv n C u v ow root)
    (h : HInv n C u v ow root far fr dn ord (dnN n dn) (fun c => dn c = true)) (hk : k < n) (hd : dn k = false) (hf : far k ≠ -1) (hm : ∀ c, c < n → dn c = false → far c ≠ -1 → far k ≤ far c) (ho : ow k = -1) :
    HEnd n C u v ow root far fr (up1 dn k true) (up1 ord k (dnN n dn)) (dnN n dn + 1) k := by
  refine ⟨h.mark hk hd hf hm, hk, by unfold up1; simp, ho, fun c hc hdc => ?_, ?_⟩
  · unfold up1 at hdc
    by_cases e : c = k
    · rw [e]; exact Int.le_refl _
    · rw [if_neg e] at hdc; exact h.mon c hc hdc k hk hd hf
  · have h1 := h.bd k hk hf
    have h2 := ht.free k hk ho
    have h3 := dnN_up hk hd
    have h4 := dnN_le n (up1 dn k true)
    omega

/- what a hunt leaves -/
def ReachLeft (p q n root : Nat) (C : Nat → Nat → Int) (vc : Value) (u v ow far0 fr0 : Nat → Int) (wb : World) (e : Ending) (w' : World) : Prop :=
  ∃ far fr dn ord cnt, HuntAt w' q root far fr dn ∧ TabAt w' p n vc u v ow ∧ Below wb.heap.size wb w' ∧
      ((e = .returned (.int .i64 (-1)) ∧ (HInv n C u v ow root far fr dn ord cnt (fun c => dn c = true) ∧ ∀ c, c < n → dn c = true ∨ far c = -1) ∧ RchR n C u v ow (spFar n C u v root 0 (fillS (-1) far0 n) (fun _ => false)) (spFr n C u v root (-1) 0 (fillS (-1) far0 n) fr0 (fun _ => false)) (fun _ => false) far fr dn (-1)) ∨ ∃ c : Nat, e = .returned (.int .i64 c) ∧ HEnd n C u v ow root far fr dn ord cnt c ∧ RchR n C u v ow (spFar n C u v root 0 (fillS (-1) far0 n) (fun _ => false)) (spFr n C u v root (-1) 0 (fillS (-1) far0 n) fr0 (fun _ => false)) (fun _ => false) far fr dn c)

set_option maxRecDepth 100000 in
set_option maxHeartbeats 4000000 in
theorem reach_any (p q n root : Nat) (C : Nat → Nat → Int) (vc : Value) (u v ow far0 fr0 : Nat → Int) (wb w : World) (hn : n ≤ 10) (hr : root < n) (hpq : p ≠ q) (hqb : wb.heap.size ≤ q) (hB : Below wb.heap.size wb w) (hsq : SqR wb vc n C) (hc : CellOk n C) (hT : TInv n C u v ow root)
    (ht : TabAt w p n vc u v ow) (hh : HuntAt w q root far0 fr0 (fun _ => false)) :
    Calls Tryz.prog 177 #[.pointer (some ⟨p, 0, none⟩), .pointer (some ⟨q, 0, none⟩)] w (ReachLeft p q n root C vc u v ow far0 fr0 wb) := by
  obtain ⟨hub, hvb⟩ := hT.ub hn (by omega)
  have HSP : Hid (∀ (W : World) (row : Nat) (far fr : Nat → Int) (dn : Nat → Bool) (frm start : Int), row < n → -1000000000 ≤ start ∧ start ≤ 1000000000 → TabAt W p n vc u v ow → HuntAt W q root far fr dn → Below wb.heap.size wb W → Calls Tryz.prog 207 #[.pointer (some ⟨p, 0, none⟩), .pointer (some ⟨q, 0, none⟩), .int .i64 row, .int .i64 frm, .int .i64 start] W fun e w' => e = .returned (.tuple #[]) ∧ HuntAt w' q root (spFar n C u v row start far dn) (spFr n C u v row frm start far fr dn) dn ∧ TabAt w' p n vc u v ow ∧ Below wb.heap.size wb w') :=
    fun W row far fr dn frm start h1 h2 h3 h4 h5 => spread_any p q n root row C vc u v ow far fr dn frm start wb W hn h1 hpq hqb h5 hsq hc h2 (fun i hi => by have := hub i hi; omega) (fun i hi => by have := hvb i hi; omega) h3 h4
  have HNR : Hid (∀ (W : World) (far fr : Nat → Int) (dn : Nat → Bool), TabAt W p n vc u v ow → HuntAt W q root far fr dn → Calls Tryz.prog 208 #[.pointer (some ⟨p, 0, none⟩), .pointer (some ⟨q, 0, none⟩)] W fun e w' => e = .returned (.int .i64 (nearS n far dn)) ∧ Below W.heap.size W w') := fun W far fr dn h1 h2 => nearest_any p q n root vc u v ow far fr dn W hn h1 h2
  have HTI := hid hT
  have HCO := hid hc
  have HT := hid ht
  have HH := hid hh
  have HB := hid hB
  have HBG := hid (fun (far fr : Nat → Int) (hf : ∀ c, c < n → far c = -1) => hunt_begin hc hT hr far fr hf (fun _ => 0))
  have HVB := hid hvb
  clear ht hh hB hc hT hsq hub hvb
  go_enter Tryz.func177, Tryz.ntmps177
  go_wp2_with fail
  go_loopw [5] (fun i wr => ∃ (k : Nat) (far : Nat → Int), k ≤ n ∧ i = .int .i64 k ∧ Hid (far = fillS (-1) far0 k) ∧ Hid (HuntAt wr q root far fr0 (fun _ => false)) ∧ Hid (TabAt wr p n vc u v ow) ∧ Hid (Below wb.heap.size wb wr)) (fun i _ => n - (intOf i).toNat)
  case atStart => exact ⟨0, far0, Nat.zero_le _, rfl, (fill_zero _ _).symm, HH, HT, HB⟩
  case round =>
    clear HT HH HB
    obtain ⟨k, far, hk, rfl, HF, HH, HT, HB⟩ := hrel
    have t0 := HT.out.c0
    have hpw := HT.out.lt
    have hqw := HH.out.lt
    by_cases hlt : k < n
    · have f0 := HH.out.cf k (by omega)
      have hfz := HH.out.frozen (1 + k)
      have ik : (0 : Int) ≤ (k : Int) := by omega
      have jk : (k : Int) < 10 := by omega
      have HX : Hid (up1 far k (-1) = fillS (-1) far0 (k + 1)) := by show _ = _; rw [HF.out]; exact fill_succ _ _ _
      go_wp2_with go_in
      go_roundw
      case rel => exact ⟨k + 1, up1 far k (-1), by omega, by go_num, HX, HH.out.putF (by omega) _, HT.out.aside hpq _, HB.out.setCell (by exact hqb) _⟩
      case measure => simp [intOf]; omega
    · have hkn : k = n := by omega
      have HFF : Hid (far = fillS (-1) far0 n) := by show _ = _; rw [HF.out, hkn]
      have HI0 := hid (HBG.out far fr0 (fun c hc => by rw [HFF.out]; unfold fillS; rw [if_pos hc]))
      clear hkn
      have h0 := HH.out.c0
      have HC1 := hid (HSP.out wr root far fr0 (fun _ => false) (-1) 0 hr (by omega) HT.out HH.out HB.out)
      clear HF HBG
      go_wp2_with fail
      refine HC1.out.mono ?_
      rintro e1 w1 ⟨rfl, hh1, ht1, hb1⟩
      have HH1 := hid hh1
      have HT1 := hid ht1
      have HB1 := hid hb1
      clear hh1 ht1 hb1 HC1 HT HH HB h0 t0 hpw hqw
      go_wp2_with fail
      refine (HNR.out w1 _ _ _ HT1.out HH1.out).mono ?_
      rintro e2 w2 ⟨rfl, hb2⟩
      have HH2 := hid (HH1.out.below hb2)
      have HT2 := hid (HT1.out.below hb2)
      have HB2 : Hid (Below wb.heap.size wb w2) := HB1.out.trans (hb2.mono HB1.out.size)
      obtain ⟨far1, hfar1⟩ : ∃ f, f = spFar n C u v root 0 far (fun _ => false) := ⟨_, rfl⟩
      obtain ⟨fr1, hfr1⟩ : ∃ f, f = spFr n C u v root (-1) 0 far fr0 (fun _ => false) := ⟨_, rfl⟩
      rw [← hfar1] at HH2 HI0 ⊢
      rw [← hfr1] at HH2 HI0
      have HI1 : Hid (HInv n C u v ow root far1 fr1 (fun _ => false) (fun _ => 0) (dnN n (fun _ => false)) (fun c => (fun _ => false : Nat → Bool) c = true)) := by
        have e1 : dnN n (fun _ => false) = 0 := by unfold dnN; simp
        have e2 : (fun c : Nat => (fun _ => false : Nat → Bool) c = true) = fun _ => False := by funext c; simp
        show HInv _ _ _ _ _ _ _ _ _ _ _ _
        rw [e1, e2]; exact HI0.out
      have HR1 : Hid (∀ a b d e, RchR n C u v ow far1 fr1 (fun _ => false) a b d e → RchR n C u v ow (spFar n C u v root 0 (fillS (-1) far0 n) (fun _ => false)) (spFr n C u v root (-1) 0 (fillS (-1) far0 n) fr0 (fun _ => false)) (fun _ => false) a b d e) := fun a b d e h => by rw [← HFF.out, ← hfar1, ← hfr1]; exact h
      clear hb2 HH1 HT1 HB1 HI0 hfar1 hfr1 HFF
      go_wp2_with fail
      go_loopw [6] (fun cv wr => ∃ (far fr : Nat → Int) (dn : Nat → Bool) (ord : Nat → Nat), cv = .int .i64 (nearS n far dn) ∧ Hid (∀ a b d e, RchR n C u v ow far fr dn a b d e → RchR n C u v ow (spFar n C u v root 0 (fillS (-1) far0 n) (fun _ => false)) (spFr n C u v root (-1) 0 (fillS (-1) far0 n) fr0 (fun _ => false)) (fun _ => false) a b d e) ∧ Hid (HInv n C u v ow root far fr dn ord (dnN n dn) (fun c => dn c = true)) ∧ Hid (HuntAt wr q root far fr dn) ∧ Hid (TabAt wr p n vc u v ow) ∧ Hid (Below wb.heap.size wb wr)) (fun _ wr => n - doneAt wr q n)
      case atStart => exact ⟨far1, fr1, fun _ => false, fun _ => 0, rfl, HR1, HI1, HH2, HT2, HB2⟩
      case round =>
        clear HI1 HH2 HT2 HB2 HR1
        obtain ⟨far, fr, dn, ord, rfl, HR, HI, HH, HT, HB⟩ := hrel
        have hpw := HT.out.lt
        have hqw := HH.out.lt
        rcases near_spec n far dn with ⟨hno, hall⟩ | ⟨c, hcn, hcl, hdc, hfc, hmin⟩
        · rw [hno]
          have HALL := hid hall
          have HRE := hid (HR.out _ _ _ _ (RchR.no hno))
          clear hno hall
          go_wp2_with fail
          go_ret
          exact ⟨far, fr, dn, ord, _, HH.out, HT.out, HB.out, .inl ⟨rfl, ⟨HI.out, HALL.out⟩, HRE.out⟩⟩
        · rw [hcn]
          have d0 := HH.out.cd c (by omega)
          have hfz := HH.out.frozen (21 + c)
          have ic : (0 : Int) ≤ (c : Int) := by omega
          have jc : (c : Int) < 10 := by omega
          have c1 : ((c : Int) != (-1 : Int)) = true := by simp
          have HW : Hid (∀ W, W = wr.setCell ⟨q, 21 + c, none⟩ (.bool true) → HuntAt W q root far fr (up1 dn c true) ∧ TabAt W p n vc u v ow ∧ Below wb.heap.size wb W) := fun W e => by
            subst e
            exact ⟨HH.out.putD (by omega) true, HT.out.aside hpq _, HB.out.setCell (by exact hqb) _⟩
          obtain ⟨W, hW⟩ : ∃ W, W = wr.setCell ⟨q, 21 + c, none⟩ (.bool true) := ⟨_, rfl⟩
          obtain ⟨hhW, htW, hbW⟩ := HW.out W hW
          have o0 := htW.co c (by omega)
          have f0 := hhW.cf c (by omega)
          have hpW := htW.lt
          have hqW := hhW.lt
          have HHW := hid hhW
          have HTW := hid htW
          have HBW := hid hbW
          have HWQ := hid hW
          have HDC : Hid (doneAt wr q n = dnN n dn) := doneAt_of HH.out hn
          have HCU := hid (dnN_up (n := n) hcl hdc)
          have hcle := dnN_le n (up1 dn c true)
          clear HW hhW htW hbW
          by_cases hoc : ow c = -1
          · have HE := hid (HI.out.end_ hn HTI.out hcl hdc hfc hmin hoc)
            have HRE := hid (HR.out _ _ _ _ (RchR.hit hcn hoc))
            rw [hoc] at o0
            rw [hW] at o0 hpW
            clear hW hoc hmin hfc hdc f0
            go_wp2_with go_in
            go_ret
            refine ⟨far, fr, up1 dn c true, up1 ord c (dnN n dn), dnN n dn + 1, ?_, ?_, ?_, .inr ⟨c, rfl, HE.out, HRE.out⟩⟩
            · rw [← HWQ.out]; exact HHW.out
            · rw [← HWQ.out]; exact HTW.out
            · rw [← HWQ.out]; exact HBW.out
          · obtain ⟨i, hi, hir, _⟩ : ∃ i : Nat, ow c = i ∧ i < root ∧ C i c ≠ -1 ∧ u i + v c = C i c := by
              rcases HTI.out.own c hcl with h1 | h1
              · exact absurd h1 hoc
              · exact h1
            have hup : up1 dn c true c = true := by unfold up1; simp
            have hfk0 : 0 ≤ far c ∧ far c ≤ 1000000000 := by
              rcases HI.out.pos c hcl with h1 | h1
              · exact absurd h1 hfc
              · have h2 := HI.out.bd c hcl hfc
                have h3 := HVB.out c hcl
                have h4 := HCU.out
                omega
            have HI2 : Hid (HInv n C u v ow root (spFar n C u v i (far c) far (up1 dn c true)) (spFr n C u v i c (far c) far fr (up1 dn c true)) (up1 dn c true) (up1 ord c (dnN n dn)) (dnN n (up1 dn c true)) (fun x => up1 dn c true x = true)) := by
              have h := hunt_spread (k := c) HCO.out HTI.out hr (HI.out.mark hcl hdc hfc hmin) hcl hup hoc (fun x hx hdx => by
                unfold up1 at hdx
                by_cases e : x = c
                · rw [e]; exact Int.le_refl _
                · rw [if_neg e] at hdx; exact HI.out.mon x hx hdx c hcl hdc hfc) (fun j hj hjd hjf => by
                unfold up1 at hjd
                by_cases e : j = c
                · rw [if_pos e] at hjd; cases hjd
                · rw [if_neg e] at hjd; exact hmin j hj hjd hjf) (fun j hj hjf => by have := HI.out.bd j hj hjf; omega)
              rw [hi] at h
              simp only [Int.toNat_natCast] at h
              show HInv _ _ _ _ _ _ _ _ _ _ _ _
              rw [HCU.out]; exact h
            have HKF : Hid (spFar n C u v i (far c) far (up1 dn c true) c = far c) := by
              show _ = _
              unfold spFar; rw [if_neg (fun h => by have := h.2.1; rw [hup] at this; cases this)]
            have HCW : Hid (∀ W2, Below W.heap.size W W2 → Calls Tryz.prog 207 #[.pointer (some ⟨p, 0, none⟩), .pointer (some ⟨q, 0, none⟩), .int .i64 i, .int .i64 c, .int .i64 (far c)] W2 fun e w' => e = .returned (.tuple #[]) ∧ w'.cell? ⟨p, 22 + c, none⟩ = some (.int .i64 (ow c)) ∧ w'.cell? ⟨q, 1 + c, none⟩ = some (.int .i64 (far c)) ∧ Hid (HuntAt w' q root (spFar n C u v i (far c) far (up1 dn c true)) (spFr n C u v i c (far c) far fr (up1 dn c true)) (up1 dn c true)) ∧ Hid (TabAt w' p n vc u v ow) ∧ Hid (Below wb.heap.size wb w')) := by
              intro W2 h2
              refine (HSP.out W2 i far fr (up1 dn c true) c (far c) (by omega) (by omega) (HTW.out.below h2) (HHW.out.below h2) (HBW.out.trans (h2.mono HBW.out.size))).mono ?_
              rintro e3 w3 ⟨rfl, hh3, ht3, hb3⟩
              refine ⟨rfl, ht3.co c (by omega), ?_, hh3, ht3, hb3⟩
              rw [hh3.cf c (by omega), HKF.out]
            have HRE : Hid (∀ a b d e, RchR n C u v ow (spFar n C u v i (far c) far (up1 dn c true)) (spFr n C u v i c (far c) far fr (up1 dn c true)) (up1 dn c true) a b d e → RchR n C u v ow (spFar n C u v root 0 (fillS (-1) far0 n) (fun _ => false)) (spFr n C u v root (-1) 0 (fillS (-1) far0 n) fr0 (fun _ => false)) (fun _ => false) a b d e) := fun a b d e h => HR.out a b d e (RchR.more hcn hoc (by rw [hi]; exact h))
            rw [hi] at o0 HCW
            obtain ⟨fc, hfce⟩ : ∃ fc, fc = far c := ⟨_, rfl⟩
            rw [← hfce] at f0
            have o1 := o0
            have f1 := f0
            have hpW1 := hpW
            have hqW1 := hqW
            rw [hW] at o0 f0 hpW hqW
            rw [← hfce] at HCW
            have c2 : ((i : Int) == (-1 : Int)) = false := by simp
            clear hoc hi hmin hfc hdc hup hfk0 HI HR
            go_wp2_with fail
            rw [← hW]
            have HFCE := hid hfce
            have HCLE := hid hcle
            clear o0 f0 hpW hqW d0 hfz hW hfce hcle hcn c1 c2
            go_region_held3 (fun w' => w'.cell? ⟨p, 22 + c, none⟩ = some (.int .i64 i) ∧ w'.cell? ⟨q, 1 + c, none⟩ = some (.int .i64 fc)) (go_keep) (first | (go_at_call 207; refine (HCW.out _ (by first | exact Below.refl _ _ | exact (Below.refl _ _).drew)).mono ?_; rintro e3 w3 ⟨rfl, x0, x1, HH3, HT3, HB3⟩))
            clear x0 x1 o1 f1
            rw [HFCE.out] at HH3
            go_wp2_with fail
            refine (HNR.out w3 _ _ _ HT3.out HH3.out).mono ?_
            rintro e4 w4 ⟨rfl, hb4⟩
            have HH4 := hid (HH3.out.below hb4)
            have HT4 := hid (HT3.out.below hb4)
            have HB4 : Hid (Below wb.heap.size wb w4) := HB3.out.trans (hb4.mono HB3.out.size)
            have HD4 : Hid (doneAt w4 q n = dnN n (up1 dn c true)) := doneAt_of HH4.out hn
            clear hb4 HH3 HT3 HB3 HCW HKF
            go_wp2_with fail
            go_roundw
            case rel => exact ⟨_, _, up1 dn c true, up1 ord c (dnN n dn), rfl, HRE, HI2, HH4, HT4, HB4⟩
            case measure =>
              show n - doneAt w4 q n < n - doneAt wr q n
              rw [HD4.out, HDC.out, HCU.out]
              have := HCLE.out
              rw [HCU.out] at this
              omega
end Go.Proofs.YtebinaopncclgabGreatDoor
namespace Go.Proofs.YtebinaopncclgabGreatDoor
open Go.RowKit Go.IntWalk

set_option maxRecDepth 100000 in
set_option maxHeartbeats 4000000 in
theorem raise_any (p q n root : Nat) (vc : Value) (u v ow far fr : Nat → Int) (dn : Nat → Bool) (D : Int) (wb w : World) (hn : n ≤ 10) (hr : root < n) (hpq : p ≠ q) (hpb : wb.heap.size ≤ p) (hB : Below wb.heap.size wb w)
    (hD : 0 ≤ D ∧ D ≤ 2000000) (hf : ∀ c, c < n → dn c = true → 0 ≤ far c ∧ far c ≤ D) (hu : ∀ k, k ≤ n → ∀ i, i < n → 0 ≤ rzU ow far dn D (up1 u root (u root + D)) k i ∧ rzU ow far dn D (up1 u root (u root + D)) k i ≤ 100000000) (hv : ∀ i, i < n → -50000000 ≤ v i ∧ v i ≤ 50000000) (hu0 : 0 ≤ u root ∧ u root ≤ 50000000)
    (ho : ∀ c, c < n → ow c = -1 ∨ ∃ i : Nat, ow c = i ∧ i < n) (ht : TabAt w p n vc u v ow) (hh : HuntAt w q root far fr dn) :
    Calls Tryz.prog 179 #[.pointer (some ⟨p, 0, none⟩), .pointer (some ⟨q, 0, none⟩), .int .i64 D] w fun e w' => e = .returned (.tuple #[]) ∧ HuntAt w' q root far fr dn ∧ TabAt w' p n vc (rzU ow far dn D (up1 u root (u root + D)) n) (rzV ow far dn D v n) ow ∧ Below wb.heap.size wb w' := by
  have HB := hid hB
  have HF := hid hf
  have HU := hid hu
  have HV := hid hv
  have HO := hid ho
  have HT := hid ht
  have HH := hid hh
  have h0 := hh.c0
  have tu := ht.cu root (by omega)
  have hpw := ht.lt
  have hqw := hh.lt
  have hfz := ht.frozen (2 + root)
  have ir : (0 : Int) ≤ (root : Int) := by omega
  have jr : (root : Int) < 10 := by omega
  have wz1 : IntKind.i64.wrap (u root + D) = u root + D := i64_fits _ (by omega)
  obtain ⟨ur, hur⟩ : ∃ ur, ur = u root := ⟨_, rfl⟩
  rw [← hur] at tu hu0 wz1 HU ⊢
  have HUR := hid hur
  clear ht hh hB hf hu hv ho hur
  obtain ⟨U, hU⟩ : ∃ U, U = rzU ow far dn D (up1 u root (ur + D)) := ⟨_, rfl⟩
  obtain ⟨V, hV⟩ : ∃ V, V = rzV ow far dn D v := ⟨_, rfl⟩
  rw [← hU] at HU ⊢
  rw [← hV]
  have HU0 : Hid (U 0 = up1 u root (ur + D)) := by show _ = _; rw [hU]; rfl
  have HV0 : Hid (V 0 = v) := by show _ = _; rw [hV]; rfl
  have HUS : Hid (∀ k, U (k + 1) = if dn k = true ∧ ow k ≠ -1 then up1 (U k) (ow k).toNat (U k (ow k).toNat + (D - far k)) else U k) := fun k => by rw [hU]; rfl
  have HVS : Hid (∀ k, V (k + 1) = if dn k = true ∧ ow k ≠ -1 then up1 (V k) k (V k k - (D - far k)) else V k) := fun k => by rw [hV]; rfl
  have HVK : Hid (∀ k, V k k = v k) := fun k => by rw [hV, rzV_at, if_neg (by omega)]
  clear hU hV
  go_enter Tryz.func179, Tryz.ntmps179
  go_wp2_with go_in
  go_region
  have HT1 : Hid (TabAt (w.setCell ⟨p, 2 + root, none⟩ (.int .i64 (ur + D))).drew p n vc (up1 u root (ur + D)) v ow) := (HT.out.putU (by omega) _).block rfl
  have HH1 : Hid (HuntAt (w.setCell ⟨p, 2 + root, none⟩ (.int .i64 (ur + D))).drew q root far fr dn) := (HH.out.aside (Ne.symm hpq) _).block rfl
  have HB1 : Hid (Below wb.heap.size wb (w.setCell ⟨p, 2 + root, none⟩ (.int .i64 (ur + D))).drew) := (HB.out.setCell (by exact hpb) _).drew
  obtain ⟨w1, hw1⟩ : ∃ w1, w1 = (w.setCell ⟨p, 2 + root, none⟩ (.int .i64 (ur + D))).drew := ⟨_, rfl⟩
  rw [← hw1] at HT1 HH1 HB1 ⊢
  clear hw1 HT HH HB h0 tu hfz wz1 HUR hpw hqw
  go_wp2_with fail
  go_loopw [6] (fun i wr => ∃ k : Nat, k ≤ n ∧ i = .int .i64 k ∧ Hid (TabAt wr p n vc (U k) (V k) ow) ∧ Hid (HuntAt wr q root far fr dn) ∧ Hid (Below wb.heap.size wb wr)) (fun i _ => n - (intOf i).toNat)
  case atStart => exact ⟨0, Nat.zero_le _, rfl, by rw [HU0.out, HV0.out]; exact HT1, HH1, HB1⟩
  case round =>
    clear HT1 HH1 HB1
    obtain ⟨k, hk, rfl, HT, HH, HB⟩ := hrel
    have t0 := HT.out.c0
    have hpw := HT.out.lt
    have hqw := HH.out.lt
    by_cases hlt : k < n
    · have d0 := HH.out.cd k (by omega)
      have o0 := HT.out.co k (by omega)
      have ik : (0 : Int) ≤ (k : Int) := by omega
      have jk : (k : Int) < 10 := by omega
      cases hdk : dn k
      · rw [hdk] at d0
        have HX : Hid (U (k + 1) = U k ∧ V (k + 1) = V k) := by
          show _ ∧ _
          rw [HUS.out, HVS.out, if_neg (by rw [hdk]; simp), if_neg (by rw [hdk]; simp)]; exact ⟨rfl, rfl⟩
        go_wp2_with go_in
        go_roundw
        case rel => exact ⟨k + 1, by omega, by go_num, by rw [HX.out.1, HX.out.2]; first | exact HT | exact HT.out.block rfl, by first | exact HH | exact HH.out.block rfl, by first | exact HB | exact HB.out.drew⟩
        case measure => simp [intOf]; omega
      · rw [hdk] at d0
        by_cases hok : ow k = -1
        · have c1 : (ow k != (-1 : Int)) = false := by simp [hok]
          have HX : Hid (U (k + 1) = U k ∧ V (k + 1) = V k) := by
            show _ ∧ _
            rw [HUS.out, HVS.out, if_neg (by simp [hok]), if_neg (by simp [hok])]; exact ⟨rfl, rfl⟩
          clear hok
          go_wp2_with go_in
          go_roundw
          case rel => exact ⟨k + 1, by omega, by go_num, by rw [HX.out.1, HX.out.2]; first | exact HT | exact HT.out.block rfl, by first | exact HH | exact HH.out.block rfl, by first | exact HB | exact HB.out.drew⟩
          case measure => simp [intOf]; omega
        · obtain ⟨i, hi, hin⟩ : ∃ i : Nat, ow k = i ∧ i < n := by
            rcases HO.out k hlt with h | h
            · exact absurd h hok
            · exact h
          have hfb := HF.out k hlt hdk
          have hub := HU.out k hk i hin
          have hvb := HV.out k hlt
          have tui := HT.out.cu i (by omega)
          have tvk := HT.out.cv k (by omega)
          have f0 := HH.out.cf k (by omega)
          have hfz := HT.out.frozen
          have ii : (0 : Int) ≤ (i : Int) := by omega
          have ji : (i : Int) < 10 := by omega
          rw [HVK.out] at tvk
          have HX : Hid (U (k + 1) = up1 (U k) i (U k i + (D - far k)) ∧ V (k + 1) = up1 (V k) k (v k - (D - far k))) := by
            show _ ∧ _
            rw [HUS.out, HVS.out, if_pos ⟨hdk, hok⟩, if_pos ⟨hdk, hok⟩, hi, HVK.out]; simp
          rw [hi] at o0
          obtain ⟨fk, hfk⟩ : ∃ fk, fk = far k := ⟨_, rfl⟩
          obtain ⟨ui, hui⟩ : ∃ ui, ui = U k i := ⟨_, rfl⟩
          obtain ⟨vk, hvk⟩ : ∃ vk, vk = v k := ⟨_, rfl⟩
          rw [← hfk] at f0 hfb HX
          rw [← hui] at tui hub HX
          rw [← hvk] at tvk hvb HX
          have c1 : ((i : Int) != (-1 : Int)) = true := by simp
          have wz2 : IntKind.i64.wrap (D - fk) = D - fk := i64_fits _ (by omega)
          have wz3 : IntKind.i64.wrap (ui + (D - fk)) = ui + (D - fk) := i64_fits _ (by omega)
          have wz4 : IntKind.i64.wrap (vk - (D - fk)) = vk - (D - fk) := i64_fits _ (by omega)
          have fz1 := hfz (2 + i)
          have hfk2 := hfk
          have hvk2 := hvk
          have HFH := hid hfk
          have HVH := hid hvk
          clear hok hi hfk hui hvk hfz hfk2 hvk2
          go_wp2_with go_in
          go_region
          have HT2 : Hid (TabAt (wr.setCell ⟨p, 2 + i, none⟩ (.int .i64 (ui + (D - fk)))).drew p n vc (up1 (U k) i (ui + (D - fk))) (V k) ow) := (HT.out.putU (by omega) _).block rfl
          have HH2 : Hid (HuntAt (wr.setCell ⟨p, 2 + i, none⟩ (.int .i64 (ui + (D - fk)))).drew q root far fr dn) := (HH.out.aside (Ne.symm hpq) _).block rfl
          have HB2 : Hid (Below wb.heap.size wb (wr.setCell ⟨p, 2 + i, none⟩ (.int .i64 (ui + (D - fk)))).drew) := (HB.out.setCell (by exact hpb) _).drew
          obtain ⟨w2, hw2⟩ : ∃ w2, w2 = (wr.setCell ⟨p, 2 + i, none⟩ (.int .i64 (ui + (D - fk)))).drew := ⟨_, rfl⟩
          rw [← hw2] at HT2 HH2 HB2 ⊢
          have HVV : Hid (V k k = vk) := by show _ = _; rw [HVK.out]; exact HVH.out.symm
          have tv2 := HT2.out.cv k (by omega)
          rw [HVV.out] at tv2
          have f2 := HH2.out.cf k (by omega)
          rw [← HFH.out] at f2
          have fz2 := HT2.out.frozen (12 + k)
          have hp2 := HT2.out.lt
          have hq2 := HH2.out.lt
          clear hw2 HT HH HB tui tvk f0 fz1 hpw hqw d0 o0 t0 wz3
          go_wp2_with go_in
          go_region
          have HT3 : Hid (TabAt (w2.setCell ⟨p, 12 + k, none⟩ (.int .i64 (vk - (D - fk)))).drew p n vc (up1 (U k) i (ui + (D - fk))) (up1 (V k) k (vk - (D - fk))) ow) := (HT2.out.putV (by omega) _).block rfl
          have HH3 : Hid (HuntAt (w2.setCell ⟨p, 12 + k, none⟩ (.int .i64 (vk - (D - fk)))).drew q root far fr dn) := (HH2.out.aside (Ne.symm hpq) _).block rfl
          have HB3 : Hid (Below wb.heap.size wb (w2.setCell ⟨p, 12 + k, none⟩ (.int .i64 (vk - (D - fk)))).drew) := (HB2.out.setCell (by exact hpb) _).drew
          go_wp2
          go_roundw
          case rel => exact ⟨k + 1, by omega, by go_num, by rw [HX.out.1, HX.out.2]; exact HT3, HH3, HB3⟩
          case measure => simp [intOf]; omega
    · have hke : k = n := by omega
      subst hke
      go_wp2_with go_in
      refine bodyPost_end (v := .tuple #[]) (by simp [results, Tryz.results179, go_sem]) rfl ?_
      exact ⟨rfl, HH.out, HT.out, HB.out⟩
end Go.Proofs.YtebinaopncclgabGreatDoor
namespace Go.Proofs.YtebinaopncclgabGreatDoor
open Go.RowKit Go.IntWalk

set_option maxRecDepth 100000 in
set_option maxHeartbeats 4000000 in
theorem give_any (p q n root e cnt : Nat) (C : Nat → Nat → Int) (vc : Value) (u0 v0 u v ow far fr : Nat → Int) (dn : Nat → Bool) (ord : Nat → Nat) (wb w : World) (hn : n ≤ 10) (hpq : p ≠ q) (hpb : wb.heap.size ≤ p) (hB : Below wb.heap.size wb w)
    (he : HEnd n C u0 v0 ow root far fr dn ord cnt e) (hT : TInv n C u0 v0 ow root) (ht : TabAt w p n vc u v ow) (hh : HuntAt w q root far fr dn) :
    Calls Tryz.prog 180 #[.pointer (some ⟨p, 0, none⟩), .pointer (some ⟨q, 0, none⟩), .int .i64 e] w fun r w' => r = .returned (.tuple #[]) ∧ ∃ (W : Nat → Prop) (j : Nat) (ow' : Nat → Int), Given n ow fr root e W j ow' ∧ (∀ c, c < n → W c ∨ c = j → dn c = true) ∧ GiveR root fr ow e ow' ∧ TabAt w' p n vc u v ow' ∧ Below wb.heap.size wb w' := by
  have HE := hid he
  have HTI := hid hT
  have HT0 := hid ht
  have HH0 := hid hh
  have HB0 := hid hB
  have HG0 := hid (give_begin he)
  clear he hT ht hh hB
  go_enter Tryz.func180, Tryz.ntmps180
  go_wp2_with fail
  go_loopw [6] (fun cv wr => ∃ (j : Nat) (OW : Nat → Int) (W : Nat → Prop), cv = .int .i64 j ∧ Hid (∀ x, GiveR root fr OW j x → GiveR root fr ow e x) ∧ Hid (GInv n ow fr dn ord e W j OW) ∧ Hid (TabAt wr p n vc u v OW) ∧ Hid (HuntAt wr q root far fr dn) ∧ Hid (Below wb.heap.size wb wr)) (fun cv _ => ord (intOf cv).toNat)
  case atStart => exact ⟨e, ow, fun _ => False, rfl, fun x h => h, HG0, HT0, HH0, HB0⟩
  case round =>
    clear HG0 HT0 HH0 HB0
    obtain ⟨j, OW, W, rfl, HR, HG, HT, HH, HB⟩ := hrel
    have hpw := HT.out.lt
    have hqw := HH.out.lt
    have hjn := HG.out.jlt
    have r0 := HH.out.cr j (by omega)
    have o0 := HT.out.co j (by omega)
    have fz := HT.out.frozen (22 + j)
    have ij : (0 : Int) ≤ (j : Int) := by omega
    have jj : (j : Int) < 10 := by omega
    by_cases hf : fr j = -1
    · have hgv := give_end HE.out HG.out hf
      have h0 := HH.out.c0
      rw [hf] at r0
      have HGV := hid hgv
      have HRE := hid (HR.out _ (GiveR.last hf))
      clear hf hgv
      go_wp2_with go_in
      go_region
      go_wp2
      refine bodyPost_end (v := .tuple #[]) (by simp [results, Tryz.results180, go_sem]) rfl ?_
      exact ⟨rfl, W, j, up1 OW j root, HGV.out.1, HGV.out.2, HRE.out, by first | exact HT.out.putO (by omega) _ | exact (HT.out.putO (by omega) _).block rfl, by first | exact HB.out.setCell (by exact hpb) _ | exact (HB.out.setCell (by exact hpb) _).drew⟩
    · obtain ⟨d, hd, hfd, hlt, hg2⟩ := give_next HE.out HG.out hf
      have HG2 := hid hg2
      have o1 := HT.out.co d (by omega)
      have id : (0 : Int) ≤ (d : Int) := by omega
      have jd : (d : Int) < 10 := by omega
      have c1 : ((d : Int) != (-1 : Int)) = true := by simp
      have HRE : Hid (∀ x, GiveR root fr (up1 OW j (OW d)) d x → GiveR root fr ow e x) := fun x h => HR.out x (GiveR.more hfd h)
      rw [hfd] at r0
      obtain ⟨x, hx⟩ : ∃ x, x = OW d := ⟨_, rfl⟩
      rw [← hx] at o1 HG2 HRE
      have HLT := hid hlt
      have HFD := hid hfd
      clear hf hfd hg2 hlt hx
      go_wp2_with go_in
      go_region
      have HT2 : Hid (TabAt (wr.setCell ⟨p, 22 + j, none⟩ (.int .i64 x)).drew p n vc u v (up1 OW j x)) := (HT.out.putO (by omega) _).block rfl
      have HH2 : Hid (HuntAt (wr.setCell ⟨p, 22 + j, none⟩ (.int .i64 x)).drew q root far fr dn) := (HH.out.aside (Ne.symm hpq) _).block rfl
      have HB2 : Hid (Below wb.heap.size wb (wr.setCell ⟨p, 22 + j, none⟩ (.int .i64 x)).drew) := (HB.out.setCell (by exact hpb) _).drew
      obtain ⟨w2, hw2⟩ : ∃ w2, w2 = (wr.setCell ⟨p, 22 + j, none⟩ (.int .i64 x)).drew := ⟨_, rfl⟩
      rw [← hw2] at HT2 HH2 HB2 ⊢
      have r2 := HH2.out.cr j (by omega)
      rw [HFD.out] at r2
      have hp2 := HT2.out.lt
      have hq2 := HH2.out.lt
      clear hw2 r0 o0 o1 fz hpw hqw HT HH HB
      go_wp2_with go_in
      go_roundw
      case rel => exact ⟨d, _, _, by go_num, HRE, HG2, by first | exact HT2 | exact HT2.out.block rfl, by first | exact HH2 | exact HH2.out.block rfl, by first | exact HB2 | exact HB2.out.drew⟩
      case measure => simpa [intOf] using HLT.out
end Go.Proofs.YtebinaopncclgabGreatDoor
