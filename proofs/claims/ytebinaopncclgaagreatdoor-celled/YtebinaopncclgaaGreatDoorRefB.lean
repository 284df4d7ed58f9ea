/- Walks of the document's answer: is a line of the form? -/
import Derived.Test.YtebinaopncclgaaGreatDoorRefA
namespace Go.Proofs.YtebinaopncclgaaGreatDoor
open Go.RowKit Go.IntWalk

def needS (f : List UInt8) : Nat := if f = [68] then 6 else if f = [83] then 6 else if f = [82] then 4 else 0
def formedS (f : List UInt8) (fs : List (List UInt8)) (first : Bool) : Bool := decide (fs.length + 1 = needS f) && (first == (f == [68])) && fs.all numOk
theorem take_all_num {zs : List (List UInt8)} {k : Nat} (hlt : k < zs.length) : (zs.take (k + 1)).all numOk = ((zs.take k).all numOk && numOk zs[k]) := by
  rw [List.take_succ_eq_append_getElem hlt, List.all_append]; simp
theorem all_num_no {zs : List (List UInt8)} {k : Nat} (hlt : k < zs.length) (h : numOk zs[k] = false) : zs.all numOk = false := by
  rw [List.all_eq_false]; exact ⟨zs[k], List.getElem_mem hlt, by simp [h]⟩
theorem numOk_eq (l : List UInt8) : numOk l = ((digs l && decide (1 ≤ l.length)) && decide (l.length ≤ 5)) := by
  unfold numOk; cases digs l <;> simp

theorem letters (f : List UInt8) : f = [68] ∨ f = [83] ∨ f = [82] ∨ (f ≠ [68] ∧ f ≠ [83] ∧ f ≠ [82]) := by
  by_cases h1 : f = [68]
  · exact .inl h1
  · by_cases h2 : f = [83]
    · exact .inr (.inl h2)
    · by_cases h3 : f = [82]
      · exact .inr (.inr (.inl h3))
      · exact .inr (.inr (.inr ⟨h1, h2, h3⟩))
theorem digits_at (x : List UInt8) (b : Bool) (w : World) (hs : x.length ≤ 100000) (h : (digs x && decide (1 ≤ x.length)) = b) :
    Calls Tryz.prog 106 #[.string ⟨x.toArray⟩] w fun e w' => e = .returned (.bool b) ∧ w' = w := by
  have hz : (⟨x.toArray⟩ : ByteArray).size = x.length := by simp [ByteArray.size]
  refine (rdigits_any ⟨x.toArray⟩ w (by rw [hz]; unfold maxLen; omega)).mono ?_
  rintro e w' ⟨rfl, rfl⟩
  refine ⟨ret_bool ?_, rfl⟩
  rw [hz, ← h]

set_option maxRecDepth 100000 in
set_option maxHeartbeats 4000000 in
theorem formed_walk (g cap N : Nat) (f : List UInt8) (fs : List (List UInt8)) (first : Bool) (w : World) (hN : N = fs.length + 1) (hs : fs.length ≤ 100000) (hlen : ∀ x ∈ fs, x.length ≤ 100000)
    (h0 : w.cell? ⟨g, 0, none⟩ = some (.string ⟨f.toArray⟩)) (hc : ∀ i (hi : i < fs.length), w.cell? ⟨g, i + 1, none⟩ = some (.string ⟨(fs[i]).toArray⟩)) :
    Calls Tryz.prog 62 #[.slice (some ⟨g, 0, none⟩) N cap, .bool first] w fun e w' => e = .returned (.bool (formedS f fs first)) ∧ w' = w := by
  have HN := hid hN
  have HC := hid hc
  have HLN := hid hlen
  have hN1 : 1 ≤ N := by omega
  have hNs : N ≤ 100001 := by omega
  clear hc hlen hN
  go_enter Tryz.func62, Tryz.ntmps62
  rcases letters f with hf | hf | hf | ⟨e1, e2, e3⟩
  · subst hf
    by_cases hNn : N = 6
    · subst hNn
      have HL : Hid (fs.length = 5) := by have := HN.out; show _ = _; omega
      have hl5 : fs.length = 5 := HL.out
      cases first
      · go_wp2_with fail
        go_ret
        exact ⟨ret_bool (by unfold formedS; simp), by trivial⟩
      · go_wp2_with fail
        go_loop [6] (fun i => ∃ k : Nat, i = .int .i64 ((k + 1 : Nat) : Int) ∧ k ≤ 5 ∧ Hid ((fs.take k).all numOk = true)) (fun i => 6 - (intOf i).toNat)
        case atStart => exact ⟨0, rfl, by omega, rfl⟩
        case round =>
          obtain ⟨k, rfl, hk, HA⟩ := hrel
          by_cases hlt : k < 5
          · have hlf : k < fs.length := by omega
            have hcell := HC.out k hlf
            have hxl := HLN.out _ (List.getElem_mem hlf)
            have HT : Hid ((fs.take (k + 1)).all numOk = ((fs.take k).all numOk && numOk fs[k])) := take_all_num hlf
            have HF : Hid (numOk fs[k] = false → fs.all numOk = false) := fun h => all_num_no hlf h
            generalize fs[k] = x at *
            have HQ : Hid (numOk x = ((digs x && decide (1 ≤ x.length)) && decide (x.length ≤ 5))) := numOk_eq x
            cases hd : (digs x && decide (1 ≤ x.length))
            · have hno : fs.all numOk = false := HF.out (by rw [HQ.out, hd]; rfl)
              go_wp2_with (go_at_call 106; refine (digits_at x false _ hxl hd).mono ?_; rintro e w' ⟨rfl, rfl⟩)
              go_ret
              exact ⟨ret_bool (by unfold formedS; rw [hno, Bool.and_false]), by trivial⟩
            · by_cases h5 : x.length ≤ 5
              · go_wp2_with (go_at_call 106; refine (digits_at x true _ hxl hd).mono ?_; rintro e w' ⟨rfl, rfl⟩)
                go_round
                case rel => exact ⟨k + 1, by go_num, by omega, by show _ = true; rw [HT.out, HA.out, HQ.out, hd]; simp [h5]⟩
                case measure => simp [intOf]; omega
              · have hno : fs.all numOk = false := HF.out (by rw [HQ.out, hd]; simp [h5])
                go_wp2_with (go_at_call 106; refine (digits_at x true _ hxl hd).mono ?_; rintro e w' ⟨rfl, rfl⟩)
                go_ret
                exact ⟨ret_bool (by unfold formedS; rw [hno, Bool.and_false]), by trivial⟩
          · have hyes : fs.all numOk = true := by have := HA.out; rw [List.take_of_length_le (by omega)] at this; exact this
            have HY := hid hyes
            clear hyes
            go_wp2
            go_ret
            exact ⟨ret_bool (by unfold formedS needS; rw [HY.out, HL.out]; rfl), by trivial⟩
    · have hne : ((N : Int) != 6) = true := by simp; omega
      have hne2 : ¬ fs.length + 1 = 6 := by have := HN.out; omega
      have HNE := hid hne2
      clear hne2
      go_wp2
      go_ret
      exact ⟨ret_bool (by unfold formedS needS; simp; intro h; have := HNE.out; omega), by trivial⟩
  · subst hf
    by_cases hNn : N = 6
    · subst hNn
      have HL : Hid (fs.length = 5) := by have := HN.out; show _ = _; omega
      have hl5 : fs.length = 5 := HL.out
      cases first
      · go_wp2_with fail
        go_loop [6] (fun i => ∃ k : Nat, i = .int .i64 ((k + 1 : Nat) : Int) ∧ k ≤ 5 ∧ Hid ((fs.take k).all numOk = true)) (fun i => 6 - (intOf i).toNat)
        case atStart => exact ⟨0, rfl, by omega, rfl⟩
        case round =>
          obtain ⟨k, rfl, hk, HA⟩ := hrel
          by_cases hlt : k < 5
          · have hlf : k < fs.length := by omega
            have hcell := HC.out k hlf
            have hxl := HLN.out _ (List.getElem_mem hlf)
            have HT : Hid ((fs.take (k + 1)).all numOk = ((fs.take k).all numOk && numOk fs[k])) := take_all_num hlf
            have HF : Hid (numOk fs[k] = false → fs.all numOk = false) := fun h => all_num_no hlf h
            generalize fs[k] = x at *
            have HQ : Hid (numOk x = ((digs x && decide (1 ≤ x.length)) && decide (x.length ≤ 5))) := numOk_eq x
            cases hd : (digs x && decide (1 ≤ x.length))
            · have hno : fs.all numOk = false := HF.out (by rw [HQ.out, hd]; rfl)
              go_wp2_with (go_at_call 106; refine (digits_at x false _ hxl hd).mono ?_; rintro e w' ⟨rfl, rfl⟩)
              go_ret
              exact ⟨ret_bool (by unfold formedS; rw [hno, Bool.and_false]), by trivial⟩
            · by_cases h5 : x.length ≤ 5
              · go_wp2_with (go_at_call 106; refine (digits_at x true _ hxl hd).mono ?_; rintro e w' ⟨rfl, rfl⟩)
                go_round
                case rel => exact ⟨k + 1, by go_num, by omega, by show _ = true; rw [HT.out, HA.out, HQ.out, hd]; simp [h5]⟩
                case measure => simp [intOf]; omega
              · have hno : fs.all numOk = false := HF.out (by rw [HQ.out, hd]; simp [h5])
                go_wp2_with (go_at_call 106; refine (digits_at x true _ hxl hd).mono ?_; rintro e w' ⟨rfl, rfl⟩)
                go_ret
                exact ⟨ret_bool (by unfold formedS; rw [hno, Bool.and_false]), by trivial⟩
          · have hyes : fs.all numOk = true := by have := HA.out; rw [List.take_of_length_le (by omega)] at this; exact this
            have HY := hid hyes
            clear hyes
            go_wp2
            go_ret
            exact ⟨ret_bool (by unfold formedS needS; rw [HY.out, HL.out]; rfl), by trivial⟩
      · go_wp2_with fail
        go_ret
        exact ⟨ret_bool (by unfold formedS; simp), by trivial⟩
    · have hne : ((N : Int) != 6) = true := by simp; omega
      have hne2 : ¬ fs.length + 1 = 6 := by have := HN.out; omega
      have HNE := hid hne2
      clear hne2
      go_wp2
      go_ret
      exact ⟨ret_bool (by unfold formedS needS; simp; intro h; have := HNE.out; omega), by trivial⟩
  · subst hf
    by_cases hNn : N = 4
    · subst hNn
      have HL : Hid (fs.length = 3) := by have := HN.out; show _ = _; omega
      have hl5 : fs.length = 3 := HL.out
      cases first
      · go_wp2_with fail
        go_loop [6] (fun i => ∃ k : Nat, i = .int .i64 ((k + 1 : Nat) : Int) ∧ k ≤ 3 ∧ Hid ((fs.take k).all numOk = true)) (fun i => 4 - (intOf i).toNat)
        case atStart => exact ⟨0, rfl, by omega, rfl⟩
        case round =>
          obtain ⟨k, rfl, hk, HA⟩ := hrel
          by_cases hlt : k < 3
          · have hlf : k < fs.length := by omega
            have hcell := HC.out k hlf
            have hxl := HLN.out _ (List.getElem_mem hlf)
            have HT : Hid ((fs.take (k + 1)).all numOk = ((fs.take k).all numOk && numOk fs[k])) := take_all_num hlf
            have HF : Hid (numOk fs[k] = false → fs.all numOk = false) := fun h => all_num_no hlf h
            generalize fs[k] = x at *
            have HQ : Hid (numOk x = ((digs x && decide (1 ≤ x.length)) && decide (x.length ≤ 5))) := numOk_eq x
            cases hd : (digs x && decide (1 ≤ x.length))
            · have hno : fs.all numOk = false := HF.out (by rw [HQ.out, hd]; rfl)
              go_wp2_with (go_at_call 106; refine (digits_at x false _ hxl hd).mono ?_; rintro e w' ⟨rfl, rfl⟩)
              go_ret
              exact ⟨ret_bool (by unfold formedS; rw [hno, Bool.and_false]), by trivial⟩
            · by_cases h5 : x.length ≤ 5
              · go_wp2_with (go_at_call 106; refine (digits_at x true _ hxl hd).mono ?_; rintro e w' ⟨rfl, rfl⟩)
                go_round
                case rel => exact ⟨k + 1, by go_num, by omega, by show _ = true; rw [HT.out, HA.out, HQ.out, hd]; simp [h5]⟩
                case measure => simp [intOf]; omega
              · have hno : fs.all numOk = false := HF.out (by rw [HQ.out, hd]; simp [h5])
                go_wp2_with (go_at_call 106; refine (digits_at x true _ hxl hd).mono ?_; rintro e w' ⟨rfl, rfl⟩)
                go_ret
                exact ⟨ret_bool (by unfold formedS; rw [hno, Bool.and_false]), by trivial⟩
          · have hyes : fs.all numOk = true := by have := HA.out; rw [List.take_of_length_le (by omega)] at this; exact this
            have HY := hid hyes
            clear hyes
            go_wp2
            go_ret
            exact ⟨ret_bool (by unfold formedS needS; rw [HY.out, HL.out]; rfl), by trivial⟩
      · go_wp2_with fail
        go_ret
        exact ⟨ret_bool (by unfold formedS; simp), by trivial⟩
    · have hne : ((N : Int) != 4) = true := by simp; omega
      have hne2 : ¬ fs.length + 1 = 4 := by have := HN.out; omega
      have HNE := hid hne2
      clear hne2
      go_wp2
      go_ret
      exact ⟨ret_bool (by unfold formedS needS; simp; intro h; have := HNE.out; omega), by trivial⟩
  · have g1 : (f == [68]) = false := beq_eq_false_iff_ne.2 e1
    have g2 : (f == [83]) = false := beq_eq_false_iff_ne.2 e2
    have g3 : (f == [82]) = false := beq_eq_false_iff_ne.2 e3
    have hne : ((N : Int) != 0) = true := by simp; omega
    go_wp2
    go_ret
    exact ⟨ret_bool (by unfold formedS needS; simp [e1, e2, e3]), by trivial⟩
end Go.Proofs.YtebinaopncclgaaGreatDoor
