/- The table and the hunt in memory. -/
import Derived.Test.YtebinaopncclgabGreatDoorAPlain
import Derived.Test.YtebinaopncclgabGreatDoorWaysZ
import Derived.BigQuiet
namespace Go.Proofs.YtebinaopncclgabGreatDoor
open Go.RowKit Go.IntWalk

structure TabAt (w : World) (p n : Nat) (vc : Value) (u v ow : Nat → Int) : Prop where
  box : ∃ cs, w.heap[p]? = some (.cells cs 240 (0, 0))
  c0 : w.cell? ⟨p, 0, none⟩ = some (.int .i64 n)
  c1 : w.cell? ⟨p, 1, none⟩ = some vc
  cu : ∀ i, i < 10 → w.cell? ⟨p, 2 + i, none⟩ = some (.int .i64 (u i))
  cv : ∀ i, i < 10 → w.cell? ⟨p, 12 + i, none⟩ = some (.int .i64 (v i))
  co : ∀ i, i < 10 → w.cell? ⟨p, 22 + i, none⟩ = some (.int .i64 (ow i))
structure HuntAt (w : World) (q root : Nat) (far fr : Nat → Int) (dn : Nat → Bool) : Prop where
  box : ∃ cs, w.heap[q]? = some (.cells cs 244 (0, 0))
  c0 : w.cell? ⟨q, 0, none⟩ = some (.int .i64 root)
  cf : ∀ i, i < 10 → w.cell? ⟨q, 1 + i, none⟩ = some (.int .i64 (far i))
  cr : ∀ i, i < 10 → w.cell? ⟨q, 11 + i, none⟩ = some (.int .i64 (fr i))
  cd : ∀ i, i < 10 → w.cell? ⟨q, 21 + i, none⟩ = some (.bool (dn i))
theorem TabAt.lt {w : World} {p n : Nat} {vc : Value} {u v ow : Nat → Int} (h : TabAt w p n vc u v ow) : p < w.heap.size := by obtain ⟨cs, hc⟩ := h.box; exact (Array.getElem?_eq_some_iff.1 hc).1
theorem HuntAt.lt {w : World} {q root : Nat} {far fr : Nat → Int} {dn : Nat → Bool} (h : HuntAt w q root far fr dn) : q < w.heap.size := by obtain ⟨cs, hc⟩ := h.box; exact (Array.getElem?_eq_some_iff.1 hc).1
theorem TabAt.block {w w' : World} {p n : Nat} {vc : Value} {u v ow : Nat → Int} (h : TabAt w p n vc u v ow) (hb : w'.heap[p]? = w.heap[p]?) : TabAt w' p n vc u v ow := by
  have hc : ∀ o, w'.cell? ⟨p, o, none⟩ = w.cell? ⟨p, o, none⟩ := fun o => World.cell?_of_block (a := ⟨p, o, none⟩) hb
  obtain ⟨cs, hcs⟩ := h.box
  exact ⟨⟨cs, hb.trans hcs⟩, (hc _).trans h.c0, (hc _).trans h.c1, fun i hi => (hc _).trans (h.cu i hi), fun i hi => (hc _).trans (h.cv i hi), fun i hi => (hc _).trans (h.co i hi)⟩
theorem HuntAt.block {w w' : World} {q root : Nat} {far fr : Nat → Int} {dn : Nat → Bool} (h : HuntAt w q root far fr dn) (hb : w'.heap[q]? = w.heap[q]?) : HuntAt w' q root far fr dn := by
  have hc : ∀ o, w'.cell? ⟨q, o, none⟩ = w.cell? ⟨q, o, none⟩ := fun o => World.cell?_of_block (a := ⟨q, o, none⟩) hb
  obtain ⟨cs, hcs⟩ := h.box
  exact ⟨⟨cs, hb.trans hcs⟩, (hc _).trans h.c0, fun i hi => (hc _).trans (h.cf i hi), fun i hi => (hc _).trans (h.cr i hi), fun i hi => (hc _).trans (h.cd i hi)⟩
theorem TabAt.below {w w' : World} {p n : Nat} {vc : Value} {u v ow : Nat → Int} (h : TabAt w p n vc u v ow) (hb : Below w.heap.size w w') : TabAt w' p n vc u v ow := h.block (hb.block _ h.lt)
theorem HuntAt.below {w w' : World} {q root : Nat} {far fr : Nat → Int} {dn : Nat → Bool} (h : HuntAt w q root far fr dn) (hb : Below w.heap.size w w') : HuntAt w' q root far fr dn := h.block (hb.block _ h.lt)
theorem below_drewN' {B : Nat} {w w' : World} (h : Below B w w') (m : Nat) : Below B w (w'.drewN m) := ⟨h.os, h.tape, h.output, h.size, h.block⟩

end Go.Proofs.YtebinaopncclgabGreatDoor
