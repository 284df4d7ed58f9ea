/- Walks of the document's answer: the numbers of a line, and whether they may be. -/
import Derived.Test.YtebinaopncclgabGreatDoorRefA
import Derived.Test.YtebinaopncclgabGreatDoorNums
import Derived.Deep.RegionHeld3
namespace Go.Proofs.YtebinaopncclgabGreatDoor
open Go.RowKit Go.IntWalk

def needS (f : List UInt8) : Nat := if f = [68] then 6 else if f = [83] then 6 else if f = [82] then 4 else 0
def formedS (f : List UInt8) (fs : List (List UInt8)) (first : Bool) : Bool := decide (fs.length + 1 = needS f) && (first == (f == [68])) && fs.all numOk
theorem take_all_num {zs : List (List UInt8)} {k : Nat} (hlt : k < zs.length) : (zs.take (k + 1)).all numOk = ((zs.take k).all numOk && numOk zs[k]) := by
  rw [List.take_succ_eq_append_getElem hlt, List.all_append]; simp
theorem all_num_no {zs : List (List UInt8)} {k : Nat} (hlt : k < zs.length) (h : numOk zs[k] = false) : zs.all numOk = false := by
  rw [List.all_eq_false]; exact ⟨zs[k], List.getElem_mem hlt, by simp [h]⟩
theorem numOk_eq (l : List UInt8) : numOk l = ((digs l && decide (1 ≤ l.length)) && decide (l.length ≤ 5)) := by
  unfold numOk; cases digs l <;> simp

theorem letters (f : List UInt8) : f = [68] ∨ f = [83] ∨ f = [82] ∨ (f ≠ [68] ∧ f ≠ [83] ∧ f ≠ [82]) := by
  by_cases h1 : f = [68]
  · exact .inl h1
  · by_cases h2 : f = [83]
    · exact .inr (.inl h2)
    · by_cases h3 : f = [82]
      · exact .inr (.inr (.inl h3))
      · exact .inr (.inr (.inr ⟨h1, h2, h3⟩))
theorem digits_at (x : List UInt8) (b : Bool) (w : World) (hs : x.length ≤ 100000) (h : (digs x && decide (1 ≤ x.length)) = b) :
    Calls Tryz.prog 154 #[.string ⟨x.toArray⟩] w fun e w' => e = .returned (.bool b) ∧ w' = w := by
  have hz : (⟨x.toArray⟩ : ByteArray).size = x.length := by simp [ByteArray.size]
  refine (rdigits_any ⟨x.toArray⟩ w (by rw [hz]; unfold maxLen; omega)).mono ?_
  rintro e w' ⟨rfl, rfl⟩
  refine ⟨ret_bool ?_, rfl⟩
  rw [hz, ← h]

set_option maxRecDepth 100000 in
set_option maxHeartbeats 4000000 in
theorem formed_walk (g cap N : Nat) (f : List UInt8) (fs : List (List UInt8)) (first : Bool) (w : World) (hN : N = fs.length + 1) (hs : fs.length ≤ 100000) (hlen : ∀ x ∈ fs, x.length ≤ 100000)
    (h0 : w.cell? ⟨g, 0, none⟩ = some (.string ⟨f.toArray⟩)) (hc : ∀ i (hi : i < fs.length), w.cell? ⟨g, i + 1, none⟩ = some (.string ⟨(fs[i]).toArray⟩)) :
    Calls Tryz.prog 96 #[.slice (some ⟨g, 0, none⟩) N cap, .bool first] w fun e w' => e = .returned (.bool (formedS f fs first)) ∧ w' = w := by
  have HN := hid hN
  have HC := hid hc
  have HLN := hid hlen
  have hN1 : 1 ≤ N := by omega
  have hNs : N ≤ 100001 := by omega
  clear hc hlen hN
  go_enter Tryz.func96, Tryz.ntmps96
  rcases letters f with hf | hf | hf | ⟨e1, e2, e3⟩
  · subst hf
    by_cases hNn : N = 6
    · subst hNn
      have HL : Hid (fs.length = 5) := by have := HN.out; show _ = _; omega
      have hl5 : fs.length = 5 := HL.out
      cases first
      · go_wp2_with fail
        go_ret
        exact ⟨ret_bool (by unfold formedS; simp), by trivial⟩
      · go_wp2_with fail
        go_loop [6] (fun i => ∃ k : Nat, i = .int .i64 ((k + 1 : Nat) : Int) ∧ k ≤ 5 ∧ Hid ((fs.take k).all numOk = true)) (fun i => 6 - (intOf i).toNat)
        case atStart => exact ⟨0, rfl, by omega, rfl⟩
        case round =>
          obtain ⟨k, rfl, hk, HA⟩ := hrel
          by_cases hlt : k < 5
          · have hlf : k < fs.length := by omega
            have hcell := HC.out k hlf
            have hxl := HLN.out _ (List.getElem_mem hlf)
            have HT : Hid ((fs.take (k + 1)).all numOk = ((fs.take k).all numOk && numOk fs[k])) := take_all_num hlf
            have HF : Hid (numOk fs[k] = false → fs.all numOk = false) := fun h => all_num_no hlf h
            generalize fs[k] = x at *
            have HQ : Hid (numOk x = ((digs x && decide (1 ≤ x.length)) && decide (x.length ≤ 5))) := numOk_eq x
            cases hd : (digs x && decide (1 ≤ x.length))
            · have hno : fs.all numOk = false := HF.out (by rw [HQ.out, hd]; rfl)
              go_wp2_with (go_at_call 154; refine (digits_at x false _ hxl hd).mono ?_; rintro e w' ⟨rfl, rfl⟩)
              go_ret
              exact ⟨ret_bool (by unfold formedS; rw [hno, Bool.and_false]), by trivial⟩
            · by_cases h5 : x.length ≤ 5
              · go_wp2_with (go_at_call 154; refine (digits_at x true _ hxl hd).mono ?_; rintro e w' ⟨rfl, rfl⟩)
                go_round
                case rel => exact ⟨k + 1, by go_num, by omega, by show _ = true; rw [HT.out, HA.out, HQ.out, hd]; simp [h5]⟩
                case measure => simp [intOf]; omega
              · have hno : fs.all numOk = false := HF.out (by rw [HQ.out, hd]; simp [h5])
                go_wp2_with (go_at_call 154; refine (digits_at x true _ hxl hd).mono ?_; rintro e w' ⟨rfl, rfl⟩)
                go_ret
                exact ⟨ret_bool (by unfold formedS; rw [hno, Bool.and_false]), by trivial⟩
          · have hyes : fs.all numOk = true := by have := HA.out; rw [List.take_of_length_le (by omega)] at this; exact this
            have HY := hid hyes
            clear hyes
            go_wp2
            go_ret
            exact ⟨ret_bool (by unfold formedS needS; rw [HY.out, HL.out]; rfl), by trivial⟩
    · have hne : ((N : Int) != 6) = true := by simp; omega
      have hne2 : ¬ fs.length + 1 = 6 := by have := HN.out; omega
      have HNE := hid hne2
      clear hne2
      go_wp2
      go_ret
      exact ⟨ret_bool (by unfold formedS needS; simp; intro h; have := HNE.out; omega), by trivial⟩
  · subst hf
    by_cases hNn : N = 6
    · subst hNn
      have HL : Hid (fs.length = 5) := by have := HN.out; show _ = _; omega
      have hl5 : fs.length = 5 := HL.out
      cases first
      · go_wp2_with fail
        go_loop [6] (fun i => ∃ k : Nat, i = .int .i64 ((k + 1 : Nat) : Int) ∧ k ≤ 5 ∧ Hid ((fs.take k).all numOk = true)) (fun i => 6 - (intOf i).toNat)
        case atStart => exact ⟨0, rfl, by omega, rfl⟩
        case round =>
          obtain ⟨k, rfl, hk, HA⟩ := hrel
          by_cases hlt : k < 5
          · have hlf : k < fs.length := by omega
            have hcell := HC.out k hlf
            have hxl := HLN.out _ (List.getElem_mem hlf)
            have HT : Hid ((fs.take (k + 1)).all numOk = ((fs.take k).all numOk && numOk fs[k])) := take_all_num hlf
            have HF : Hid (numOk fs[k] = false → fs.all numOk = false) := fun h => all_num_no hlf h
            generalize fs[k] = x at *
            have HQ : Hid (numOk x = ((digs x && decide (1 ≤ x.length)) && decide (x.length ≤ 5))) := numOk_eq x
            cases hd : (digs x && decide (1 ≤ x.length))
            · have hno : fs.all numOk = false := HF.out (by rw [HQ.out, hd]; rfl)
              go_wp2_with (go_at_call 154; refine (digits_at x false _ hxl hd).mono ?_; rintro e w' ⟨rfl, rfl⟩)
              go_ret
              exact ⟨ret_bool (by unfold formedS; rw [hno, Bool.and_false]), by trivial⟩
            · by_cases h5 : x.length ≤ 5
              · go_wp2_with (go_at_call 154; refine (digits_at x true _ hxl hd).mono ?_; rintro e w' ⟨rfl, rfl⟩)
                go_round
                case rel => exact ⟨k + 1, by go_num, by omega, by show _ = true; rw [HT.out, HA.out, HQ.out, hd]; simp [h5]⟩
                case measure => simp [intOf]; omega
              · have hno : fs.all numOk = false := HF.out (by rw [HQ.out, hd]; simp [h5])
                go_wp2_with (go_at_call 154; refine (digits_at x true _ hxl hd).mono ?_; rintro e w' ⟨rfl, rfl⟩)
                go_ret
                exact ⟨ret_bool (by unfold formedS; rw [hno, Bool.and_false]), by trivial⟩
          · have hyes : fs.all numOk = true := by have := HA.out; rw [List.take_of_length_le (by omega)] at this; exact this
            have HY := hid hyes
            clear hyes
            go_wp2
            go_ret
            exact ⟨ret_bool (by unfold formedS needS; rw [HY.out, HL.out]; rfl), by trivial⟩
      · go_wp2_with fail
        go_ret
        exact ⟨ret_bool (by unfold formedS; simp), by trivial⟩
    · have hne : ((N : Int) != 6) = true := by simp; omega
      have hne2 : ¬ fs.length + 1 = 6 := by have := HN.out; omega
      have HNE := hid hne2
      clear hne2
      go_wp2
      go_ret
      exact ⟨ret_bool (by unfold formedS needS; simp; intro h; have := HNE.out; omega), by trivial⟩
  · subst hf
    by_cases hNn : N = 4
    · subst hNn
      have HL : Hid (fs.length = 3) := by have := HN.out; show _ = _; omega
      have hl5 : fs.length = 3 := HL.out
      cases first
      · go_wp2_with fail
        go_loop [6] (fun i => ∃ k : Nat, i = .int .i64 ((k + 1 : Nat) : Int) ∧ k ≤ 3 ∧ Hid ((fs.take k).all numOk = true)) (fun i => 4 - (intOf i).toNat)
        case atStart => exact ⟨0, rfl, by omega, rfl⟩
        case round =>
          obtain ⟨k, rfl, hk, HA⟩ := hrel
          by_cases hlt : k < 3
          · have hlf : k < fs.length := by omega
            have hcell := HC.out k hlf
            have hxl := HLN.out _ (List.getElem_mem hlf)
            have HT : Hid ((fs.take (k + 1)).all numOk = ((fs.take k).all numOk && numOk fs[k])) := take_all_num hlf
            have HF : Hid (numOk fs[k] = false → fs.all numOk = false) := fun h => all_num_no hlf h
            generalize fs[k] = x at *
            have HQ : Hid (numOk x = ((digs x && decide (1 ≤ x.length)) && decide (x.length ≤ 5))) := numOk_eq x
            cases hd : (digs x && decide (1 ≤ x.length))
            · have hno : fs.all numOk = false := HF.out (by rw [HQ.out, hd]; rfl)
              go_wp2_with (go_at_call 154; refine (digits_at x false _ hxl hd).mono ?_; rintro e w' ⟨rfl, rfl⟩)
              go_ret
              exact ⟨ret_bool (by unfold formedS; rw [hno, Bool.and_false]), by trivial⟩
            · by_cases h5 : x.length ≤ 5
              · go_wp2_with (go_at_call 154; refine (digits_at x true _ hxl hd).mono ?_; rintro e w' ⟨rfl, rfl⟩)
                go_round
                case rel => exact ⟨k + 1, by go_num, by omega, by show _ = true; rw [HT.out, HA.out, HQ.out, hd]; simp [h5]⟩
                case measure => simp [intOf]; omega
              · have hno : fs.all numOk = false := HF.out (by rw [HQ.out, hd]; simp [h5])
                go_wp2_with (go_at_call 154; refine (digits_at x true _ hxl hd).mono ?_; rintro e w' ⟨rfl, rfl⟩)
                go_ret
                exact ⟨ret_bool (by unfold formedS; rw [hno, Bool.and_false]), by trivial⟩
          · have hyes : fs.all numOk = true := by have := HA.out; rw [List.take_of_length_le (by omega)] at this; exact this
            have HY := hid hyes
            clear hyes
            go_wp2
            go_ret
            exact ⟨ret_bool (by unfold formedS needS; rw [HY.out, HL.out]; rfl), by trivial⟩
      · go_wp2_with fail
        go_ret
        exact ⟨ret_bool (by unfold formedS; simp), by trivial⟩
    · have hne : ((N : Int) != 4) = true := by simp; omega
      have hne2 : ¬ fs.length + 1 = 4 := by have := HN.out; omega
      have HNE := hid hne2
      clear hne2
      go_wp2
      go_ret
      exact ⟨ret_bool (by unfold formedS needS; simp; intro h; have := HNE.out; omega), by trivial⟩
  · have g1 : (f == [68]) = false := beq_eq_false_iff_ne.2 e1
    have g2 : (f == [83]) = false := beq_eq_false_iff_ne.2 e2
    have g3 : (f == [82]) = false := beq_eq_false_iff_ne.2 e3
    have hne : ((N : Int) != 0) = true := by simp; omega
    go_wp2
    go_ret
    exact ⟨ret_bool (by unfold formedS needS; simp [e1, e2, e3]), by trivial⟩
end Go.Proofs.YtebinaopncclgabGreatDoor
namespace Go.Proofs.YtebinaopncclgabGreatDoor
open Go.RowKit Go.IntWalk

theorem value_at (x : List UInt8) (w : World) (h : numOk x = true) :
    Calls Tryz.prog 202 #[.string ⟨x.toArray⟩] w fun e w' => e = .returned (.int .i64 (numV x)) ∧ w' = w := by
  have hz : (⟨x.toArray⟩ : ByteArray).size = x.length := by simp [ByteArray.size]
  have h' := h
  unfold numOk at h'
  simp only [Bool.and_eq_true, decide_eq_true_eq] at h'
  rw [numV_yes h]
  exact rvalue_any ⟨x.toArray⟩ w (by rw [hz]; exact h'.1.2) (by simpa using h'.2)
theorem own_int {w wr w1 : World} {B : Nat} {v v' : Value} {ps : List Int} {x : Int} (hB : B ≤ wr.heap.size) (hown : wr.ownsRow B 3 1 v ps.length (ints ps)) (hbel : Below B w wr)
    {o : Obj} (hown' : w1.ownsRow B 3 1 v' (ps.length + 1) (ints ps ++ [.int .i64 x])) (hgrow : (wr.alloc o).grownBy w1 v.ownBlock) :
    w1.ownsRow B 3 1 v' (ps ++ [x]).length (ints (ps ++ [x])) ∧ Below B w w1 := by
  refine ⟨by rw [List.length_append, show ints (ps ++ [x]) = ints ps ++ [.int .i64 x] from by simp [ints]]; exact hown', ?_⟩
  exact (hbel.alloc hB o).grown hgrow (by simp; omega) (fun k hk => (hown.lt k hk).1)
theorem map_snoc {fs : List (List UInt8)} {k : Nat} (h : k < fs.length) : (fs.take (k + 1)).map numV = (fs.take k).map numV ++ [numV fs[k]] := by
  rw [List.take_succ_eq_append_getElem h, List.map_append]; simp
theorem numV_range (x : List UInt8) : 0 ≤ numV x ∧ numV x ≤ 99999 := by
  unfold numV
  split
  · rename_i h
    unfold numOk at h
    simp only [Bool.and_eq_true, decide_eq_true_eq] at h
    have := val_le x h.2 h.1.2
    omega
  · omega

set_option maxRecDepth 100000 in
set_option maxHeartbeats 1000000 in
theorem values_walk (g cap N : Nat) (fs : List (List UInt8)) (w : World) (hN : N = fs.length + 1) (hs : fs.length ≤ 100000) (hok : fs.all numOk = true)
    (hg : g < w.heap.size) (hc : ∀ i (hi : i < fs.length), w.cell? ⟨g, i + 1, none⟩ = some (.string ⟨(fs[i]).toArray⟩)) :
    Calls Tryz.prog 155 #[.slice (some ⟨g, 0, none⟩) N cap] w fun e w' => ∃ v, e = .returned v ∧ w'.ownsRow w.heap.size 3 1 v (fs.map numV).length (ints (fs.map numV)) ∧ Below w.heap.size w w' := by
  obtain ⟨i0, hi, hz0, hz1, hz2⟩ := info_parts Tryz.infoInt
  have HC := hid hc
  have HOK := hid hok
  subst hN
  clear hc hok
  go_enter Tryz.func155, Tryz.ntmps155
  go_wp2
  go_loopw [3, 4] (fun v i wr => ∃ k : Nat, i = .int .i64 ((k + 1 : Nat) : Int) ∧ k ≤ fs.length ∧ wr.ownsRow w.heap.size 3 1 v ((fs.take k).map numV).length (ints ((fs.take k).map numV)) ∧ Below w.heap.size w wr) (fun _ i _ => fs.length + 1 - (intOf i).toNat)
  case atStart => exact ⟨0, rfl, by omega, World.ownsRow_nil _ _ _ _, Below.refl _ _⟩
  case round =>
    obtain ⟨k, rfl, hk, hown, hbel⟩ := hrel
    have hsize := hbel.size
    by_cases hlt : k < fs.length
    · have hcell : wr.cell? ⟨g, k + 1, none⟩ = some (.string ⟨(fs[k]).toArray⟩) := by
        rw [hbel.cell (by exact hg)]; exact HC.out k hlt
      have HX : Hid (numOk fs[k] = true) := List.all_eq_true.1 HOK.out _ (List.getElem_mem hlt)
      have HM : Hid ((fs.take (k + 1)).map numV = (fs.take k).map numV ++ [numV fs[k]]) := map_snoc hlt
      have hln : ((fs.take k).map numV).length ≤ 100000 := by simp; omega
      generalize fs[k] = x at *
      generalize (fs.take k).map numV = ps at *
      obtain ⟨hv0, hv1⟩ := numV_range x
      have HV : Hid (Calls Tryz.prog 202 #[.string ⟨x.toArray⟩] wr fun e w' => e = .returned (.int .i64 (numV x)) ∧ w' = wr) := value_at x wr HX.out
      generalize numV x = z at *
      go_wp2_with (first
          | (go_at_call 202; refine HV.out.mono ?_; rintro e w' ⟨rfl, hw'⟩; rw [hw']; clear hw' w')
          | (at_builtin; refine wpList_append_own _ rfl _ _ 40 rfl w.heap.size 3 i0 (.int .i64 0) 1 8 Tryz.underlying40 hi hz0 hz1 hz2 rfl (by decide) _ _ _ rfl (hown.alloc _) ⟨wr.heap.size, 0, none⟩ 1 1 [.int .i64 z] rfl rfl ?c1 ?c2 ?c3 ?c4 ?c5 ?_)
          | go_in)
      case c1 => exact cell_one_new _ _ _
      case c2 => intro u hu; simp at hu; subst hu; rfl
      case c3 => unfold maxLen; omega
      case c4 => omega
      case c5 => simp; omega
      · intro v' w2 hown' hgrow _
        have R := own_int hsize hown hbel hown' hgrow
        clear hown' hgrow hown hbel
        go_wp2
        go_roundw
        case rel => exact ⟨k + 1, by go_num, by omega, by rw [HM.out]; exact R.1, R.2⟩
        case measure => simp [intOf]; omega
    · go_wp2
      go_ret
      refine ⟨_, rfl, ?_, hbel⟩
      rw [List.take_of_length_le (by omega)] at hown
      exact hown

theorem i64_fits (x : Int) (h : -9223372036854775808 ≤ x ∧ x ≤ 9223372036854775807) : IntKind.i64.wrap x = x := by
  simp [IntKind.wrap, IntKind.bits, IntKind.signed]; omega
def pairsS (zs : List Int) (n : Nat) : Bool := (List.range n).all fun i => decide (zs.getD (2 * i) 0 ≤ zs.getD (2 * i + 1) 0)
theorem pairs_snoc (zs : List Int) (n : Nat) : pairsS zs (n + 1) = (pairsS zs n && decide (zs.getD (2 * n) 0 ≤ zs.getD (2 * n + 1) 0)) := by
  unfold pairsS; rw [List.range_succ, List.all_append]; simp
theorem pairs_no {zs : List Int} {k n : Nat} (h : k < n) (hk : ¬ zs.getD (2 * k) 0 ≤ zs.getD (2 * k + 1) 0) : pairsS zs n = false := by
  unfold pairsS; rw [List.all_eq_false]; exact ⟨k, List.mem_range.2 h, by simpa using hk⟩

set_option maxRecDepth 100000 in
set_option maxHeartbeats 1000000 in
theorem between_walk (b n N c : Nat) (zs : List Int) (w : World) (hN : N = 2 * n) (hn : n ≤ 50) (hb : b < w.heap.size) (hc : ∀ i, i < N → w.cell? ⟨b, i, none⟩ = some (.int .i64 (zs.getD i 0))) :
    Calls Tryz.prog 203 #[.slice (some ⟨b, 0, none⟩) N c] w fun e w' => e = .returned (.bool (pairsS zs n)) ∧ Below w.heap.size w w' := by
  have HC := hid hc
  have HN := hid hN
  have hN1 : N ≤ 100 := by omega
  clear hc hN
  go_enter Tryz.func203, Tryz.ntmps203
  go_wp2
  go_loopw [3] (fun i wr => ∃ k : Nat, i = .int .i64 ((2 * k : Nat) : Int) ∧ k ≤ n ∧ Hid (pairsS zs k = true) ∧ Below w.heap.size w wr) (fun i _ => 2 * n - (intOf i).toNat)
  case atStart => exact ⟨0, rfl, by omega, rfl, Below.refl _ _⟩
  case round =>
    obtain ⟨k, rfl, hk, HP, hbel⟩ := hrel
    have hN2 := HN.out
    have a1 : k < n → 2 * k + 1 < N := by omega
    have a2 : ¬ k < n → ¬ (2 * (k : Int) + 1 < (N : Int)) := by omega
    clear hN2
    by_cases hlt : k < n
    · have a1 := a1 hlt
      clear a2
      have c0 : wr.cell? ⟨b, 2 * k, none⟩ = some (.int .i64 (zs.getD (2 * k) 0)) := by rw [hbel.cell (by exact hb)]; exact HC.out (2 * k) (by omega)
      have c1 : wr.cell? ⟨b, 2 * k + 1, none⟩ = some (.int .i64 (zs.getD (2 * k + 1) 0)) := by rw [hbel.cell (by exact hb)]; exact HC.out (2 * k + 1) (by omega)
      have HS : Hid (pairsS zs (k + 1) = (pairsS zs k && decide (zs.getD (2 * k) 0 ≤ zs.getD (2 * k + 1) 0))) := pairs_snoc zs k
      have HF : Hid (¬ zs.getD (2 * k) 0 ≤ zs.getD (2 * k + 1) 0 → pairsS zs n = false) := fun h => pairs_no hlt h
      generalize zs.getD (2 * k) 0 = x at *
      generalize zs.getD (2 * k + 1) 0 = y at *
      obtain ⟨m, hm⟩ : ∃ m, m = 2 * k := ⟨_, rfl⟩
      have hmi : ((2 * k : Nat) : Int) = (m : Int) := by omega
      rw [hmi]
      rw [← hm] at c0 c1
      have i1 : (0 : Int) ≤ (m : Int) := by omega
      have i2 : (m : Int) < (N : Int) := by omega
      have i3 : (m : Int) + 1 < (N : Int) := by omega
      have i5 : (0 : Int) ≤ (m : Int) + 1 := by omega
      have i6 : m + 1 < N := by omega
      have i7 : m < N := by omega
      have HM := hid hm
      clear hm hmi
      have i4 : IntKind.i64.wrap ((m : Int) + 1) = (m : Int) + 1 := i64_fits _ (by omega)
      by_cases hxy : x ≤ y
      · go_wp2_with fail
        go_region_held3 (fun w' => w'.cell? ⟨b, m, none⟩ = some (.int .i64 x) ∧ w'.cell? ⟨b, m + 1, none⟩ = some (.int .i64 y)) (go_keep) (fail)
        go_wp2
        go_roundw
        case rel => exact ⟨k + 1, by have := HM.out; go_num, by omega, by show _ = true; rw [HS.out, HP.out]; simp [hxy], hbel.drew⟩
        case measure => have := HM.out; simp [intOf]; omega
      · have hno := HF.out hxy
        go_wp2_with fail
        go_region_held3 (fun w' => w'.cell? ⟨b, m, none⟩ = some (.int .i64 x) ∧ w'.cell? ⟨b, m + 1, none⟩ = some (.int .i64 y)) (go_keep) (fail)
        go_wp2
        go_ret
        exact ⟨ret_bool (by first | rfl | exact hno.symm), hbel.drew⟩
    · have a2 := a2 hlt
      clear a1
      go_wp2
      go_ret
      have e : k = n := by omega
      subst e
      exact ⟨ret_bool (by rw [HP.out]), hbel⟩
end Go.Proofs.YtebinaopncclgabGreatDoor
