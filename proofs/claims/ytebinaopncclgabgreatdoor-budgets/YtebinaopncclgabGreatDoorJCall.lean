/- Walks: Judge of any text and any plan. -/
import Derived.Test.YtebinaopncclgabGreatDoorJOf
namespace Go.Proofs.YtebinaopncclgabGreatDoor
open Go.RowKit Go.IntWalk

theorem site_range {r : Rd} (h : RdOk r) : ∀ a b, a < r.stops.length + 1 → b < r.stops.length + 1 → -1 ≤ siteD r a b ∧ siteD r a b ≤ 40960000 := by
  intro a b ha hb
  have hhd := headOk_iff.1 h.head
  obtain ⟨N, hN⟩ : ∃ N : Nat, r.nodes = N := ⟨r.nodes.toNat, by omega⟩
  have := (fw_lens12 (rd_lens h hN) (by omega) (Nat.le_refl _)).2 _ _ (siteN_lt h hN ha) (siteN_lt h hN hb)
  unfold siteD wayF; rw [show r.nodes.toNat = N by omega]; exact this
end Go.Proofs.YtebinaopncclgabGreatDoor
