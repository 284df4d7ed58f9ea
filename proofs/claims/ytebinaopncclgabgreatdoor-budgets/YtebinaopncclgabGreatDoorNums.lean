/- Walks: the numbers of some fields. -/
import Derived.Test.YtebinaopncclgabGreatDoorBase
import Derived.Test.YtebinaopncclgabGreatDoorPlainB
namespace Go.Proofs.YtebinaopncclgabGreatDoor
open Go.RowKit Go.IntWalk

def ints (zs : List Int) : List Value := zs.map (Value.int .i64)
theorem Tryz.infoInt : (Tryz.prog.info? 3).map (fun i => (i.zero, i.size, i.bytes)) = some (some (.int .i64 0), 1, 8) := by kernel_rfl
theorem retVB {a b : Value} {c d : Bool} (h : a = b) (h' : c = d) : Ending.returned (.tuple #[a, .bool c]) = .returned (.tuple #[b, .bool d]) := by rw [h, h']
/- the numbers so far, noughts behind them -/
def numsTo (ls : List (List UInt8)) (k : Nat) : List Value := ints ((ls.take k).map numV ++ List.replicate (ls.length - k) 0)

theorem getD_at {α : Type} {ls : List α} {k : Nat} {d : α} (h : k < ls.length) : ls.getD k d = ls[k] := by simp [h]
theorem numsTo_at {ls : List (List UInt8)} {k : Nat} (h : k < ls.length) : (numsTo ls k)[k]? = some (.int .i64 0) := by
  unfold numsTo ints
  have hl : ((ls.take k).map numV).length = k := by simp; omega
  rw [List.getElem?_map, List.getElem?_append_right (by omega), hl, Nat.sub_self]
  obtain ⟨m, hm⟩ : ∃ m, ls.length - k = m + 1 := ⟨ls.length - k - 1, by omega⟩
  rw [hm]; simp [List.replicate_succ]
theorem numsTo_set {ls : List (List UInt8)} {k : Nat} (h : k < ls.length) : (numsTo ls k).set k (.int .i64 (numV ls[k])) = numsTo ls (k + 1) := by
  unfold numsTo ints
  have hl : ((ls.take k).map numV).length = k := by simp; omega
  obtain ⟨m, hm⟩ : ∃ m, ls.length - k = m + 1 := ⟨ls.length - k - 1, by omega⟩
  rw [← List.map_set (f := Value.int .i64), List.set_append_right _ _ (by omega), hl, Nat.sub_self, hm, List.replicate_succ, List.set_cons_zero, List.take_succ_eq_append_getElem h, show ls.length - (k + 1) = m by omega]
  simp only [List.map_append, List.map_cons, List.map_nil, List.append_assoc, List.cons_append, List.nil_append]
theorem numsTo_end (ls : List (List UInt8)) : numsTo ls ls.length = ints (ls.map numV) := by simp [numsTo]

set_option maxHeartbeats 1000000 in
theorem numbers_any (b o c : Nat) (ls : List (List UInt8)) (w : World) (hl : ls.length ≤ 1000000) (hlen : ∀ l ∈ ls, l.length ≤ 1000000)
    (hb : b < w.heap.size) (hc : ∀ t, t < ls.length → w.cell? ⟨b, o + t, none⟩ = some (.string ⟨(ls.getD t []).toArray⟩)) :
    Calls Tryz.prog 132 #[.slice (some ⟨b, o, none⟩) ls.length c] w fun e w' => ∃ v, e = .returned (.tuple #[v, .bool (ls.all numOk)]) ∧ (ls.all numOk = true → w'.ownsRow w.heap.size 3 1 v ls.length (ints (ls.map numV)) ∧ v ≠ .slice none 0 0) ∧ Below w.heap.size w w' := by
  obtain ⟨i0, hi, hz0, hz1, hz2⟩ := info_parts Tryz.infoInt
  go_enter Tryz.func132, Tryz.ntmps132
  go_wp2_with (first
    | (at_make; refine wpList_make_full _ rfl _ _ 40 rfl w.heap.size 3 i0 (.int .i64 0) 1 Tryz.underlying40 hi hz0 hz1 .i64 .i64 _ _ ls.length rfl rfl ?m1 ?m2 ?m3 ?m4 ?m5 ?_)
    | fail)
  case m1 => rfl
  case m2 => rfl
  case m3 => rw [hz2]; omega
  case m4 => unfold maxLen; omega
  case m5 => exact Nat.le_refl _
  intro w1 hown1 hgrow1
  have hbel1 : Below w.heap.size w w1 := (Below.refl _ _).grown hgrow1 (Nat.le_refl _) (by simp)
  have hown1' : w1.ownsRow w.heap.size 3 1 (.slice (some ⟨w.heap.size, 0, none⟩) ls.length ls.length) ls.length (numsTo ls 0) := by
    have e : (madeCells #[Value.int IntKind.i64 0] ls.length).toList = numsTo ls 0 := by rw [toList_madeCells_one]; simp [numsTo, ints]
    rw [← e]; exact hown1
  clear hown1 hgrow1
  go_wp2
  go_loopw [5] (fun i wr => ∃ k : Nat, k ≤ ls.length ∧ i = .int .i64 k ∧ Hid ((ls.take k).all numOk = true) ∧ wr.ownsRow w.heap.size 3 1 (.slice (some ⟨w.heap.size, 0, none⟩) ls.length ls.length) ls.length (numsTo ls k) ∧ Below w.heap.size w wr) (fun i _ => ls.length - (intOf i).toNat)
  case atStart => exact ⟨0, Nat.zero_le _, rfl, rfl, hown1', hbel1⟩
  case round =>
    clear hown1' hbel1
    obtain ⟨k, hk, rfl, HA, hown, hbel⟩ := hrel
    by_cases hlt : k < ls.length
    · have hck : wr.cell? ⟨b, o + k, none⟩ = some (.string ⟨(ls.getD k []).toArray⟩) := (hbel.cell (by exact hb)).trans (hc k hlt)
      have hfz := hown.frozenAt k
      have hol : wr.cell? ⟨w.heap.size, k, none⟩ = some (.int .i64 0) := by rw [hown.cellAt k (by omega)]; exact numsTo_at hlt
      have HG : Hid (ls.getD k [] = ls[k]) := getD_at hlt
      have HLm : Hid ((ls.getD k []).length ≤ 1000000) := hlen _ (by rw [HG.out]; exact List.getElem_mem _)
      generalize hx : ls.getD k [] = x at *
      clear hx hc
      have hsx : (⟨x.toArray⟩ : ByteArray).size ≤ maxLen := by have := HLm.out; show x.toArray.size ≤ _; unfold maxLen; simp; omega
      have hcon := number_any ⟨x.toArray⟩ wr hsx
      have HN : Hid (Calls Tryz.prog 192 #[.string ⟨x.toArray⟩] wr fun e w' => e = .returned (.tuple #[.int .i64 (numV x), .bool (numOk x)]) ∧ w' = wr) := hcon
      clear hcon hsx
      cases hok : numOk x
      · have hall : ls.all numOk = false := by
          rw [List.all_eq_false]; exact ⟨ls[k], List.getElem_mem _, by rw [← HG.out, hok]; simp⟩
        go_wp2_with (go_at_call 192; refine HN.out.mono ?_; rintro e w' ⟨rfl, rfl⟩)
        go_ret2
        exact ⟨_, retVB rfl hall.symm, fun h => absurd h (by rw [hall]; simp), hbel⟩
      · go_wp2_with (go_at_call 192; refine HN.out.mono ?_; rintro e w' ⟨rfl, rfl⟩)
        have S := hown.stored k (.int .i64 (numV x))
        go_roundw
        case rel =>
          refine ⟨k + 1, by omega, by go_num, ?_, ?_, hbel.setCell (Nat.le_refl _) _⟩
          · show _ = true
            rw [List.take_succ_eq_append_getElem hlt, List.all_append, HA.out, ← HG.out]; simp [hok]
          · rw [← numsTo_set hlt, ← HG.out]; exact S.1
        case measure => simp [intOf]; omega
    · have hke : k = ls.length := by omega
      subst hke
      have HA' : Hid (ls.all numOk = true) := by have := HA.out; rw [List.take_length] at this; exact this
      go_wp2
      go_ret2
      exact ⟨_, retVB rfl HA'.out.symm, fun _ => ⟨by rw [← numsTo_end]; exact hown, by simp⟩, hbel⟩
end Go.Proofs.YtebinaopncclgabGreatDoor
