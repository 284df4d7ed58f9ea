/- Plain: the shape of a plan's routes. -/
import Derived.Test.YtebinaopncclgabGreatDoorWaysZ
namespace Go.Proofs.YtebinaopncclgabGreatDoor
open Go.RowKit Go.IntWalk

/- is it a plan? by a walk over its bytes: the length of the route at hand, or none -/
def plStep (n : Nat) (st : Option Nat) (c : UInt8) : Option Nat :=
  match st with
  | none => none
  | some len => if c = 47 then (if len = 0 then none else some 0) else if c.toNat < 49 ∨ n < c.toNat - 48 then none else some (len + 1)
def plGo (n : Nat) (l : List UInt8) : Option Nat := l.foldl (plStep n) (some 0)
def isPlanS (n : Nat) (l : List UInt8) : Bool := match plGo n l with | none => false | some len => decide (0 < len) || l.isEmpty
theorem plGo_snoc (n : Nat) (l : List UInt8) (c : UInt8) : plGo n (l ++ [c]) = plStep n (plGo n l) c := by simp [plGo]
theorem plGo_none (n : Nat) (l t : List UInt8) (h : plGo n l = none) : plGo n (l ++ t) = none := by
  have key : ∀ t : List UInt8, t.foldl (plStep n) none = none := by
    intro t; induction t with
    | nil => rfl
    | cons x t ih => simpa [plStep] using ih
  unfold plGo at h ⊢
  rw [List.foldl_append, h, key]
theorem isPlan_no {n k : Nat} {l : List UInt8} (h : plGo n (l.take k) = none) : isPlanS n l = false := by
  unfold isPlanS
  have := plGo_none n (l.take k) (l.drop k) h
  rw [List.take_append_drop] at this
  rw [this]
theorem is_void (s : ByteArray) : s.toList.isEmpty = s.data.toList.isEmpty := by
  have h1 := ne_void s
  have h2 : s.data.toList.isEmpty = !decide (1 ≤ s.size) := by
    cases hd : s.data.toList with
    | nil =>
      have h3 : s.size = 0 := by have := congrArg List.length hd; simpa using this
      rw [h3]; rfl
    | cons x t =>
      have h3 : s.size = t.length + 1 := by have := congrArg List.length hd; simpa using this
      rw [h3]; simp
  rw [h2, ← h1]; simp

set_option maxHeartbeats 1000000 in
theorem isPlan_any (n : Nat) (s : ByteArray) (w : World) (_hn : n ≤ 7) (hs : s.size ≤ maxLen) :
    Calls Tryz.prog 205 #[.string s, .int .i64 n] w fun e w' => e = .returned (.bool (isPlanS n s.data.toList)) ∧ w' = w := by
  unfold maxLen at hs
  go_enter Tryz.func205, Tryz.ntmps205
  go_wp2_with fail
  go_loop [5, 6] (fun len i => ∃ k m : Nat, i = .int .i64 k ∧ len = .int .i64 m ∧ k ≤ s.size ∧ m ≤ k ∧ Hid (plGo n (s.data.toList.take k) = some m)) (fun _ i => s.size - (intOf i).toNat)
  case atStart => exact ⟨0, 0, rfl, rfl, by omega, by omega, rfl⟩
  case round =>
    obtain ⟨k, m, rfl, rfl, hk, hmk, HG⟩ := hrel
    by_cases hlt : k < s.size
    · have HT := take_snoc s k hlt
      have HS : Hid (plGo n (s.data.toList.take (k + 1)) = plStep n (some m) s[k]) := by show _ = _; rw [HT, plGo_snoc, HG.out]
      clear HT
      have hb : s[k].toNat < 256 := s[k].toNat_lt
      by_cases hc : s[k].toNat = 47
      · have hc8 : s[k] = 47 := UInt8.toNat_inj.1 (by rw [hc]; rfl)
        have e1 : ((s[k].toNat : Int) == 47) = true := by simp [hc]
        by_cases hm : m = 0
        · have HX : Hid (isPlanS n s.data.toList = false) := isPlan_no (k := k + 1) (by rw [HS.out]; unfold plStep; simp [hc8, hm])
          subst hm
          clear HS hc8 hc
          go_wp2
          go_ret
          exact ⟨ret_bool HX.out.symm, rfl⟩
        · have HX : Hid (plGo n (s.data.toList.take (k + 1)) = some 0) := by show _ = _; rw [HS.out]; unfold plStep; simp [hc8, hm]
          have e2 : ((m : Int) == 0) = false := by simp; omega
          clear HS hc8 hc
          go_wp2
          go_round
          case rel => exact ⟨k + 1, 0, by go_num, rfl, by omega, by omega, HX⟩
          case measure => simp [intOf]; omega
      · have hc8 : s[k] ≠ 47 := fun e => hc (by rw [e]; rfl)
        have e1 : ((s[k].toNat : Int) == 47) = false := by simp; omega
        by_cases h49 : s[k].toNat < 49
        · have HX : Hid (isPlanS n s.data.toList = false) := isPlan_no (k := k + 1) (by rw [HS.out]; unfold plStep; simp [hc8, h49])
          clear HS hc8 hc
          go_wp2
          go_ret
          exact ⟨ret_bool HX.out.symm, rfl⟩
        · by_cases hbig : n < s[k].toNat - 48
          · have HX : Hid (isPlanS n s.data.toList = false) := isPlan_no (k := k + 1) (by rw [HS.out]; unfold plStep; simp [hc8, hbig])
            clear HS hc8 hc
            go_wp2
            go_ret
            exact ⟨ret_bool HX.out.symm, rfl⟩
          · have HX : Hid (plGo n (s.data.toList.take (k + 1)) = some (m + 1)) := by show _ = _; rw [HS.out]; unfold plStep; simp [hc8, h49]; omega
            clear HS hc8 hc
            go_wp2
            go_round
            case rel => exact ⟨k + 1, m + 1, by go_num, by go_num, by omega, by omega, HX⟩
            case measure => simp [intOf]; omega
    · have HX : Hid (isPlanS n s.data.toList = (decide (0 < m) || s.data.toList.isEmpty)) := by
        show _ = _; unfold isPlanS; rw [← take_all s k (by omega), HG.out, take_all s k (by omega)]
      by_cases hm : 0 < m
      · go_wp2
        all_goals
          go_ret
          exact ⟨ret_bool (by rw [HX.out]; simp [hm]), rfl⟩
      · have hm0 : m = 0 := by omega
        subst hm0
        have HV : Hid (s.toList.isEmpty = s.data.toList.isEmpty) := is_void s
        go_wp2
        all_goals
          go_ret
          refine ⟨ret_bool ?_, rfl⟩
          rw [HX.out, ← HV.out]
          simp

/- how often each stop stands in a text -/
def cntS (l : List UInt8) (d : Nat) : Nat := (l.filter fun c => c.toNat == 48 + d).length
theorem cnt_snoc (l : List UInt8) (c : UInt8) (d : Nat) : cntS (l ++ [c]) d = cntS l d + (if c.toNat = 48 + d then 1 else 0) := by
  unfold cntS
  rw [List.filter_append, List.length_append]
  by_cases h : c.toNat = 48 + d
  · simp [h]
  · simp [h]
theorem cnt_le (l : List UInt8) (d : Nat) : cntS l d ≤ l.length := List.length_filter_le _ _
theorem plan_byte {n : Nat} {l : List UInt8} (h : isPlanS n l = true) {k : Nat} (hk : k < l.length) : l[k] = 47 ∨ (49 ≤ l[k].toNat ∧ l[k].toNat - 48 ≤ n) := by
  have h1 : plGo n (l.take (k + 1)) ≠ none := fun e => by rw [isPlan_no e] at h; cases h
  rw [List.take_succ_eq_append_getElem hk, plGo_snoc] at h1
  cases hp : plGo n (l.take k) with
  | none => rw [hp] at h1; exact absurd rfl h1
  | some m =>
    rw [hp] at h1
    unfold plStep at h1
    by_cases hc : l[k] = 47
    · exact .inl hc
    · right
      simp only [hc, if_false] at h1
      by_cases hb : l[k].toNat < 49 ∨ n < l[k].toNat - 48
      · rw [if_pos hb] at h1; exact absurd rfl h1
      · omega
def textFaultS (n : Nat) (l : List UInt8) : Int :=
  if isPlanS n l = false then 5 else if (List.range n).any (fun d => decide (1 < cntS l (d + 1))) = true then 6 else if (List.range n).any (fun d => decide (cntS l (d + 1) = 0)) = true then 7 else 0

def cnts (l : List UInt8) (n : Nat) : List Value := (List.range (n + 1)).map fun d => Value.int .i64 (cntS l d)
theorem cnts_at {l : List UInt8} {n d : Nat} (h : d < n + 1) : (cnts l n)[d]? = some (.int .i64 (cntS l d)) := by simp [cnts, h]
theorem cnts_set {l : List UInt8} {n d : Nat} {c : UInt8} (hc : c.toNat = 48 + d) (_hd : d < n + 1) : (cnts l n).set d (.int .i64 ((cntS l d : Int) + 1)) = cnts (l ++ [c]) n := by
  apply List.ext_getElem?
  intro i
  by_cases hi : i < n + 1
  · rw [List.getElem?_set]
    by_cases hid : d = i
    · subst hid
      rw [if_pos rfl, if_pos (by simp [cnts]; omega), cnts_at hi, cnt_snoc, if_pos hc]; simp
    · rw [if_neg hid, cnts_at hi, cnts_at hi, cnt_snoc, if_neg (by omega)]; simp
  · rw [List.getElem?_eq_none (by simp [cnts]; omega), List.getElem?_eq_none (by simp [cnts]; omega)]
theorem cnts_same {l : List UInt8} {n : Nat} {c : UInt8} (hc : c = 47) : cnts (l ++ [c]) n = cnts l n := by
  unfold cnts
  apply List.map_congr_left
  intro d _
  rw [cnt_snoc, if_neg (by rw [hc]; show ¬ (47 = 48 + d); omega)]; simp
theorem cnts_zero (n : Nat) : cnts [] n = List.replicate (n + 1) (.int .i64 0) := by
  apply List.ext_getElem?
  intro i
  by_cases hi : i < n + 1
  · rw [cnts_at hi, List.getElem?_replicate, if_pos hi]; rfl
  · rw [List.getElem?_eq_none (by simp [cnts]; omega), List.getElem?_eq_none (by simp; omega)]
end Go.Proofs.YtebinaopncclgabGreatDoor
namespace Go.Proofs.YtebinaopncclgabGreatDoor
open Go.RowKit Go.IntWalk

set_option maxRecDepth 100000 in
set_option maxHeartbeats 2000000 in
theorem textFault_any (n : Nat) (s : ByteArray) (w : World) (hn : n ≤ 7) (hs : s.size ≤ maxLen) :
    Calls Tryz.prog 166 #[.string s, .int .i64 n] w fun e w' => e = .returned (.int .i64 (textFaultS n s.data.toList)) ∧ Below w.heap.size w w' := by
  obtain ⟨i0, hi, hz0, hz1, hz2⟩ := info_parts Tryz.infoInt
  have HP := hid (isPlan_any n s w hn hs)
  unfold maxLen at hs
  cases hpl : isPlanS n s.data.toList
  · have HF : Hid (textFaultS n s.data.toList = 5) := by show _ = _; unfold textFaultS; rw [if_pos hpl]
    rw [hpl] at HP
    go_enter Tryz.func166, Tryz.ntmps166
    go_wp2_with (go_at_call 205; refine HP.out.mono ?_; rintro e1 w1 ⟨rfl, rfl⟩)
    go_ret
    exact ⟨ret_int HF.out.symm, Below.refl _ _⟩
  · rw [hpl] at HP
    have HPL := hid hpl
    clear hpl
    go_enter Tryz.func166, Tryz.ntmps166
    go_wp2_with (first
      | (go_at_call 205; refine HP.out.mono ?_; rintro e1 w1 ⟨he1, hw1⟩; subst he1; rw [hw1]; clear hw1 w1)
      | (at_make; refine wpList_make_full _ rfl _ _ 40 rfl w.heap.size 3 i0 (.int .i64 0) 1 Tryz.underlying40 hi hz0 hz1 .i64 .i64 _ _ (n + 1) rfl rfl ?m1 ?m2 ?m3 ?m4 ?m5 ?_))
    case m1 => omega
    case m2 => omega
    case m3 => rw [hz2]; omega
    case m4 => unfold maxLen; omega
    case m5 => exact Nat.le_refl _
    intro w1 hown1 hgrow1
    have hbel1 : Below w.heap.size w w1 := (Below.refl _ _).grown hgrow1 (Nat.le_refl _) (by simp)
    have hown1' : w1.ownsRow w.heap.size 3 1 (.slice (some ⟨w.heap.size, 0, none⟩) (n + 1 : Nat) (n + 1 : Nat)) (n + 1) (cnts (s.data.toList.take 0) n) := by
      have e : (madeCells #[Value.int IntKind.i64 0] (n + 1)).toList = cnts (s.data.toList.take 0) n := by rw [toList_madeCells_one, List.take_zero, cnts_zero]
      rw [← e]; exact hown1
    clear hown1 hgrow1
    go_wp2
    go_loopw [6] (fun i wr => ∃ k : Nat, k ≤ s.size ∧ i = .int .i64 k ∧ Hid (wr.ownsRow w.heap.size 3 1 (.slice (some ⟨w.heap.size, 0, none⟩) (n + 1 : Nat) (n + 1 : Nat)) (n + 1) (cnts (s.data.toList.take k) n)) ∧ Hid (Below w.heap.size w wr)) (fun i _ => s.size - (intOf i).toNat)
    case atStart => exact ⟨0, Nat.zero_le _, rfl, hown1', hbel1⟩
    case round =>
      clear hown1' hbel1
      obtain ⟨k, hk, rfl, HO, HB⟩ := hrel
      by_cases hlt : k < s.size
      · have HT := hid (take_snoc s k hlt)
        have hb : s[k].toNat < 256 := s[k].toNat_lt
        have hpb : s[k] = 47 ∨ (49 ≤ s[k].toNat ∧ s[k].toNat - 48 ≤ n) := plan_byte HPL.out (k := k) (by simpa using hlt)
        by_cases hc : s[k].toNat = 47
        · have hc8 : s[k] = 47 := UInt8.toNat_inj.1 (by rw [hc]; rfl)
          have HC := hid hc8
          have e1 : ((s[k].toNat : Int) == 47) = true := by simp [hc]
          clear hc8 hpb
          go_wp2
          go_roundw
          case rel =>
            refine ⟨k + 1, by omega, by go_num, ?_, HB⟩
            show World.ownsRow _ _ _ _ _ _ _
            rw [HT.out, cnts_same HC.out]; exact HO.out
          case measure => simp [intOf]; omega
        · have hd : 49 ≤ s[k].toNat ∧ s[k].toNat - 48 ≤ n := by
            rcases hpb with h | h
            · exact absurd (by rw [h]; rfl) hc
            · exact h
          have e1 : ((s[k].toNat : Int) == 47) = false := by simp; omega
          obtain ⟨d, hdd⟩ : ∃ d, s[k].toNat = 48 + d := ⟨s[k].toNat - 48, by omega⟩
          have HD := hid hdd
          have hdn : d < n + 1 := by omega
          have hdl : d ≤ 7 := by omega
          have hfz := HO.out.frozenAt d
          have hol : wr.cell? ⟨w.heap.size, d, none⟩ = some (.int .i64 (cntS (s.data.toList.take k) d)) := by rw [HO.out.cellAt d (by omega)]; exact cnts_at hdn
          have hcl : cntS (s.data.toList.take k) d ≤ k := Nat.le_trans (cnt_le _ _) (List.length_take_le _ _)
          clear hpb
          go_wp2
          have S := HO.out.stored d (.int .i64 ((cntS (s.data.toList.take k) d : Int) + 1))
          go_roundw
          case rel =>
            refine ⟨k + 1, by omega, by go_num, ?_, HB.out.setCell (Nat.le_refl _) _⟩
            show World.ownsRow _ _ _ _ _ _ _
            rw [HT.out, ← cnts_set HD.out hdn]; exact S.1
          case measure => simp [intOf]; omega
      · have HO2 : Hid (wr.ownsRow w.heap.size 3 1 (.slice (some ⟨w.heap.size, 0, none⟩) (n + 1 : Nat) (n + 1 : Nat)) (n + 1) (cnts s.data.toList n)) := by
          have := HO.out
          rw [take_all s k (by omega)] at this
          exact this
        have hcnt : ∀ d, cntS s.data.toList d ≤ s.size := fun d => Nat.le_trans (cnt_le _ _) (by simp)
        have HCN := hid hcnt
        clear HO hcnt
        go_wp2_with fail
        go_loop [7] (fun i => ∃ p : Nat, p ≤ n ∧ i = .int .i64 (p + 1 : Nat) ∧ Hid (∀ j, j < p → cntS s.data.toList (j + 1) ≤ 1)) (fun i => n + 1 - (intOf i).toNat)
        case atStart => exact ⟨0, Nat.zero_le _, rfl, fun j hj => absurd hj (by omega)⟩
        case round =>
          obtain ⟨p, hp, rfl, HS⟩ := hrel
          by_cases hpn : p < n
          · have hol : wr.cell? ⟨w.heap.size, p + 1, none⟩ = some (.int .i64 (cntS s.data.toList (p + 1))) := by rw [HO2.out.cellAt (p + 1) (by omega)]; exact cnts_at (by omega)
            have hcl := HCN.out (p + 1)
            by_cases hgt : 1 < cntS s.data.toList (p + 1)
            · have HF : Hid (textFaultS n s.data.toList = 6) := by
                show _ = _
                unfold textFaultS
                rw [if_neg (by rw [HPL.out]; simp), if_pos]
                exact List.any_eq_true.2 ⟨p, by simp [hpn], by simpa using hgt⟩
              go_wp2
              go_ret
              exact ⟨ret_int HF.out.symm, HB.out⟩
            · go_wp2
              go_round
              case rel => exact ⟨p + 1, by omega, by go_num, fun j hj => by
                by_cases h : j = p
                · subst h; omega
                · exact HS.out j (by omega)⟩
              case measure => simp [intOf]; omega
          · have hpe : p = n := by omega
            subst hpe
            have HT6 : Hid ((List.range p).any (fun d => decide (1 < cntS s.data.toList (d + 1))) = false) := by
              show _ = _
              rw [List.any_eq_false]
              intro d hd
              have := HS.out d (by simpa using hd)
              simpa using this
            clear HS
            go_wp2_with fail
            go_loop [8] (fun i => ∃ q : Nat, q ≤ p ∧ i = .int .i64 (q + 1 : Nat) ∧ Hid (∀ j, j < q → cntS s.data.toList (j + 1) ≠ 0)) (fun i => p + 1 - (intOf i).toNat)
            case atStart => exact ⟨0, Nat.zero_le _, rfl, fun j hj => absurd hj (by omega)⟩
            case round =>
              obtain ⟨q, hq, rfl, HS⟩ := hrel
              by_cases hqn : q < p
              · have hol : wr.cell? ⟨w.heap.size, q + 1, none⟩ = some (.int .i64 (cntS s.data.toList (q + 1))) := by rw [HO2.out.cellAt (q + 1) (by omega)]; exact cnts_at (by omega)
                have hcl := HCN.out (q + 1)
                by_cases hgt : cntS s.data.toList (q + 1) = 0
                · have HF : Hid (textFaultS p s.data.toList = 7) := by
                    show _ = _
                    unfold textFaultS
                    rw [if_neg (by rw [HPL.out]; simp), if_neg (by rw [HT6.out]; simp), if_pos]
                    exact List.any_eq_true.2 ⟨q, by simp [hqn], by simpa using hgt⟩
                  rw [hgt] at hol
                  go_wp2
                  go_ret
                  exact ⟨ret_int HF.out.symm, HB.out⟩
                · have e2 : ((cntS s.data.toList (q + 1) : Int) == 0) = false := by simp; omega
                  go_wp2
                  go_round
                  case rel => exact ⟨q + 1, by omega, by go_num, fun j hj => by
                    by_cases h : j = q
                    · subst h; exact hgt
                    · exact HS.out j (by omega)⟩
                  case measure => simp [intOf]; omega
              · have hqe : q = p := by omega
                subst hqe
                have HF : Hid (textFaultS q s.data.toList = 0) := by
                  show _ = _
                  unfold textFaultS
                  rw [if_neg (by rw [HPL.out]; simp), if_neg (by rw [HT6.out]; simp), if_neg]
                  intro h
                  obtain ⟨d, hd, h0⟩ := List.any_eq_true.1 h
                  exact HS.out d (by simpa using hd) (by simpa using h0)
                go_wp2
                go_ret
                exact ⟨ret_int HF.out.symm, HB.out⟩
end Go.Proofs.YtebinaopncclgabGreatDoor
namespace Go.Proofs.YtebinaopncclgabGreatDoor
open Go.RowKit Go.IntWalk

/- lists of numbers that are made one by one; they lie in the blocks from B up to U -/
structure Rts (w : World) (B U : Nat) (v : Value) (L : List (List Int)) (vs : List Value) : Prop where
  own : w.ownsRow B 40 1 v vs.length vs
  len : vs.length = L.length
  row : ∀ i (h : i < vs.length) (h' : i < L.length), ∃ gi ci cur, vs[i] = .slice (some ⟨gi, 0, none⟩) L[i].length ci ∧ (B ≤ gi ∧ gi < U) ∧ w.heap[gi]? = some (.cells cur 3 (0, 0)) ∧ ∀ j (hj : j < L[i].length), cur[j]? = some (.int .i64 L[i][j])
theorem Rts.nil (w : World) (B U : Nat) : Rts w B U (.slice none 0 0) [] [] := ⟨World.ownsRow_nil _ _ _ _, rfl, fun i h => absurd h (by simp)⟩
theorem Rts.below {w w' : World} {B U U' : Nat} {v : Value} {L : List (List Int)} {vs : List Value} (h : Rts w B U v L vs) (hb : Below w.heap.size w w') (hU : U ≤ U') : Rts w' B U' v L vs :=
  ⟨own_below h.own hb, h.len, fun i hi hi' => by
    obtain ⟨gi, ci, cur, k1, k2, k3, k4⟩ := h.row i hi hi'
    exact ⟨gi, ci, cur, k1, by omega, by rw [hb.block _ (Array.getElem?_eq_some_iff.1 k3).1]; exact k3, k4⟩⟩
theorem Rts.base {w : World} {B B' U : Nat} {v : Value} {L : List (List Int)} {vs : List Value} (h : Rts w B U v L vs) (hb : B' ≤ B) : Rts w B' U v L vs :=
  ⟨own_base h.own hb, h.len, fun i hi hi' => by
    obtain ⟨gi, ci, cur, k1, k2, k3, k4⟩ := h.row i hi hi'
    exact ⟨gi, ci, cur, k1, by omega, k3, k4⟩⟩
/- read -/
theorem Rts.at {w : World} {B U : Nat} {v : Value} {L : List (List Int)} {vs : List Value} (h : Rts w B U v L vs) {i : Nat} (hi : i < L.length) : ∃ g c gi ci, v = .slice (some ⟨g, 0, none⟩) L.length c ∧ g < w.heap.size ∧ w.cell? ⟨g, i, none⟩ = some (.slice (some ⟨gi, 0, none⟩) L[i].length ci) ∧ gi < w.heap.size ∧ ∀ j (hj : j < L[i].length), w.cell? ⟨gi, j, none⟩ = some (.int .i64 L[i][j]) := by
  have hl := h.len
  obtain ⟨gi, ci, cur, k1, k2, k3, k4⟩ := h.row i (by omega) hi
  obtain ⟨g, cap, e, hg, hc⟩ := own_at h.own (i := i) (by omega) (by omega)
  exact ⟨g, cap, gi, ci, by rw [← hl]; exact e, hg, by rw [hc, k1], (Array.getElem?_eq_some_iff.1 k3).1, fun j hj => by rw [cell_of_row _ _ _ _ _ _ k3]; exact k4 j hj⟩
/- a list more: it is made, with memory of its own -/
theorem Rts.grown {w w' : World} {B U : Nat} {v l : Value} {L : List (List Int)} {vs : List Value} {Bl q : Nat} {zs : List Value} (h : Rts w B U v L vs) (hl : w.ownsRow Bl 3 1 l q zs) (hB : U ≤ Bl) (hg : w.grownBy w' l.ownBlock) : Rts w' B U v L vs :=
  ⟨h.own.kept hg (own_ne h.own hl (by decide)), h.len, fun i hi hi' => by
    obtain ⟨gi, ci, cur, k1, k2, k3, k4⟩ := h.row i hi hi'
    refine ⟨gi, ci, cur, k1, k2, ?_, k4⟩
    rw [hg.block _ (Array.getElem?_eq_some_iff.1 k3).1 (fun e => by have h5 := (hl.lt _ e.symm).1; omega)]; exact k3⟩
/- and appended -/
theorem Rts.push {w X w' : World} {B U Bl : Nat} {v v' l : Value} {L : List (List Int)} {vs : List Value} {zs : List Int} (h : Rts w B U v L vs) (hl : w.ownsRow Bl 3 1 l zs.length (ints zs)) (hn : 0 < zs.length) (hB : B ≤ Bl) (hX : Below w.heap.size w X) (hg : X.grownBy w' v.ownBlock) (ho : w'.ownsRow B 40 1 v' (vs.length + 1) (vs ++ [l])) : Rts w' B w'.heap.size v' (L ++ [zs]) (vs ++ [l]) := by
  have hk : Keep [40] w w' := (Keep.of_below hX).trans (Keep.grown (own_below h.own hX) (by simp) hg)
  have hlen := h.len
  refine ⟨by rw [List.length_append]; exact ho, by simp [hlen], fun i hi hi' => ?_⟩
  by_cases hlt : i < vs.length
  · obtain ⟨gi, ci, cur, k1, k2, k3, k4⟩ := h.row i hlt (by omega)
    have k5 := hk _ _ _ _ k3 (by decide)
    have e : (L ++ [zs])[i] = L[i] := List.getElem_append_left (by omega)
    exact ⟨gi, ci, cur, by rw [List.getElem_append_left hlt, e]; exact k1, ⟨k2.1, (Array.getElem?_eq_some_iff.1 k5).1⟩, k5, fun j hj => by simp only [e] at hj ⊢; exact k4 j hj⟩
  · have hi2 : i = vs.length := by simp at hi; omega
    subst hi2
    have e : (L ++ [zs])[vs.length] = zs := by simp [hlen]
    rcases hl.2 with ⟨_, h0⟩ | ⟨g, cap, cur, rfl, hb, hgc, h1, h2, h3, h4⟩
    · omega
    · have k5 := hk _ _ _ _ hgc (by decide)
      refine ⟨g, cap, cur, by rw [e]; simp, ⟨by omega, (Array.getElem?_eq_some_iff.1 k5).1⟩, k5, fun j hj => ?_⟩
      simp only [e] at hj ⊢
      have h6 : (ints zs)[j]? = some (.int .i64 zs[j]) := by simp [ints, hj]
      rw [← h4, List.getElem?_take_of_lt (by omega)] at h6
      simpa using h6

/- the routes of a plan, by a walk over its bytes -/
def rtStep (st : List (List Int) × List Int) (c : UInt8) : List (List Int) × List Int := if c = 47 then (st.1 ++ [st.2 ++ [0]], [0]) else (st.1, st.2 ++ [(c.toNat : Int) - 48])
def rtGo (l : List UInt8) : List (List Int) × List Int := l.foldl rtStep ([], [0])
def routesS (l : List UInt8) : List (List Int) := if l = [] then [] else (rtGo l).1 ++ [(rtGo l).2 ++ [0]]
theorem rtGo_snoc (l : List UInt8) (c : UInt8) : rtGo (l ++ [c]) = rtStep (rtGo l) c := by simp [rtGo]
theorem rtGo_len (l : List UInt8) : (rtGo l).1.length ≤ l.length ∧ 0 < (rtGo l).2.length ∧ (rtGo l).2.length ≤ l.length + 1 := by
  have key : ∀ n (l : List UInt8), l.length = n → (rtGo l).1.length ≤ l.length ∧ 0 < (rtGo l).2.length ∧ (rtGo l).2.length ≤ l.length + 1 := by
    intro n
    induction n with
    | zero => intro l h; have : l = [] := List.length_eq_zero_iff.1 h; subst this; simp [rtGo]
    | succ n ih =>
      intro l h
      have hne : l ≠ [] := fun e => by rw [e] at h; simp at h
      rw [← List.dropLast_concat_getLast hne, rtGo_snoc]
      have := ih l.dropLast (by simp [h])
      unfold rtStep
      by_cases hc : l.getLast hne = 47
      · rw [if_pos hc]; simp; simp at this; omega
      · rw [if_neg hc]; simp; simp at this; omega
  exact key _ l rfl

set_option maxRecDepth 100000 in
set_option maxHeartbeats 2000000 in
theorem routes_any (s : ByteArray) (w : World) (hs : s.size ≤ 1000) (hb : ∀ k (h : k < s.size), s[k] = 47 ∨ 49 ≤ s[k].toNat) :
    Calls Tryz.prog 167 #[.string s] w fun e w' => ∃ v vs, e = .returned v ∧ Rts w' w.heap.size w'.heap.size v (routesS s.data.toList) vs ∧ Below w.heap.size w w' := by
  obtain ⟨i0, hi, hz0, hz1, hz2⟩ := info_parts Tryz.infoInt
  obtain ⟨j0, hj, hy0, hy1, hy2⟩ := info_parts Tryz.infoInts
  have HBY := hid hb
  clear hb
  go_enter Tryz.func167, Tryz.ntmps167
  go_wp2_with fail
  go_loopw [3, 4, 5] (fun lv rv i wr => ∃ (k U : Nat) (vs : List Value), k ≤ s.size ∧ i = .int .i64 k ∧ w.heap.size ≤ U ∧ U ≤ wr.heap.size ∧ Hid (Rts wr w.heap.size U lv (rtGo (s.data.toList.take k)).1 vs) ∧ Hid (wr.ownsRow U 3 1 rv (rtGo (s.data.toList.take k)).2.length (ints (rtGo (s.data.toList.take k)).2)) ∧ Hid (Below w.heap.size w wr)) (fun _ _ i _ => s.size - (intOf i).toNat)
  case atStart =>
    refine ⟨0, w.heap.size, [], Nat.zero_le _, rfl, Nat.le_refl _, by simp, Rts.nil _ _ _, ?_, below1 _ _⟩
    have := World.ownsRow_lit (base := w.heap.size) (e := 3) (size := 1) w #[.int .i64 0] 1 (by simp) (by unfold maxLen; omega) rfl
    show World.ownsRow _ _ _ _ _ _ _
    simpa [rtGo, ints] using this
  case round =>
    obtain ⟨k, U, vs, hk, rfl, hU, hUw, HL, HR, HB⟩ := hrel
    have hlen := rtGo_len (s.data.toList.take k)
    have htl : (s.data.toList.take k).length ≤ k := List.length_take_le _ _
    generalize hst : rtGo (s.data.toList.take k) = st at *
    have hl1 : st.1.length ≤ 1000 := by omega
    have hl2 : 0 < st.2.length := hlen.2.1
    have hl3 : st.2.length ≤ 1001 := by omega
    clear hlen htl
    obtain ⟨g, capr, curr, rfl, _, _, hcr⟩ := own_shape HR.out hl2
    obtain ⟨al, capl, rfl, _, _⟩ := own_val HL.out.own
    have hvl : vs.length ≤ 1000 := by rw [HL.out.len]; exact hl1
    by_cases hlt : k < s.size
    · have HT := hid (take_snoc s k hlt)
      have hb : s[k].toNat < 256 := s[k].toNat_lt
      by_cases hc : s[k].toNat = 47
      · have hc8 : s[k] = 47 := UInt8.toNat_inj.1 (by rw [hc]; rfl)
        have HN : Hid (rtGo (s.data.toList.take (k + 1)) = (st.1 ++ [st.2 ++ [0]], [0])) := by show _ = _; rw [HT.out, rtGo_snoc, hst]; unfold rtStep; rw [if_pos hc8]
        have e1 : ((s[k].toNat : Int) == 47) = true := by simp [hc]
        clear hc8
        go_wp2_with (at_builtin; refine wpList_append_own _ rfl _ _ 40 rfl U 3 i0 (.int .i64 0) 1 8 Tryz.underlying40 hi hz0 hz1 hz2 rfl (by decide) _ _ _ rfl (HR.out.alloc _) ⟨wr.heap.size, 0, none⟩ 1 1 [.int .i64 (0)] rfl rfl ?c1 ?c2 ?c3 ?c4 ?c5 ?_)
        case c1 => exact cell_one_new _ _ _
        case c2 => intro u hu; simp at hu; subst hu; rfl
        case c3 => unfold maxLen; omega
        case c4 => omega
        case c5 => simp; omega
        intro v1 w1 hown1 hgr1 _
        have hgg1 : (wr.alloc (.cells #[.int .i64 (0)] 3)).grownBy w1 (Value.slice (some ⟨g, 0, none⟩) st.2.length capr).ownBlock := hgr1
        obtain ⟨zs, hzs⟩ : ∃ zs, zs = st.2 ++ [0] := ⟨_, rfl⟩
        have hzl : 0 < zs.length := by rw [hzs]; simp
        have HR1 : Hid (w1.ownsRow U 3 1 v1 zs.length (ints zs)) := by
          show World.ownsRow _ _ _ _ _ _ _
          rw [hzs]; exact (own_int (w := wr) hUw HR.out (Below.refl _ _) hown1 hgg1).1
        have HL1 : Hid (Rts w1 w.heap.size U (.slice al vs.length capl) st.1 vs) := (HL.out.below (below1 wr _) (Nat.le_refl _)).grown (own_below HR.out (below1 wr _)) (Nat.le_refl _) hgg1
        have HB1 : Hid (Below w.heap.size w w1) := (HB.out.trans ((below1 wr _).mono (by omega))).grown hgg1 (by simp; omega) (fun x hx => by have := (HR.out.lt x hx).1; omega)
        have hs1 : U ≤ w1.heap.size := by have h1 := hgg1.size; simp at h1; omega
        rw [← hzs] at HN
        clear hown1 hgr1 hgg1 HR HL HB hzs
        obtain ⟨g1, cap1, cur1, rfl, _, _, _⟩ := own_shape HR1.out hzl
        go_wp2_with (at_builtin; refine wpList_append_own _ rfl _ _ 31 rfl w.heap.size 40 j0 (.slice none 0 0) 1 24 Tryz.underlying31 hj hy0 hy1 hy2 rfl (by decide) _ _ _ rfl ((HL1.out.own).alloc _) ⟨w1.heap.size, 0, none⟩ 1 1 [.slice (some ⟨g1, 0, none⟩) zs.length cap1] rfl rfl ?d1 ?d2 ?d3 ?d4 ?d5 ?_)
        case d1 => exact news_at rfl rfl
        case d2 => intro u hu; simp at hu; subst hu; rfl
        case d3 => unfold maxLen; omega
        case d4 => omega
        case d5 => simp; omega
        intro v2 w2 hown2 hgr2 _
        have hgg2 : (w1.alloc (.cells #[.slice (some ⟨g1, 0, none⟩) zs.length cap1] 40)).grownBy w2 (Value.slice al vs.length capl).ownBlock := hgr2
        have HL2 : Hid (Rts w2 w.heap.size w2.heap.size v2 (st.1 ++ [zs]) (vs ++ [.slice (some ⟨g1, 0, none⟩) zs.length cap1])) := HL1.out.push HR1.out hzl (by omega) (below1 w1 _) hgg2 hown2
        have HB2 : Hid (Below w.heap.size w w2) := (HB1.out.trans ((below1 w1 _).mono (by omega))).grown hgg2 (by simp; omega) (fun x hx => (HL1.out.own.lt x hx).1)
        have hs2 : w1.heap.size ≤ w2.heap.size := by have h1 := hgg2.size; simp at h1; omega
        clear hown2 hgr2 hgg2 HR1 HL1 HB1
        go_wp2_with fail
        go_roundw
        case rel =>
          refine ⟨k + 1, w2.heap.size, vs ++ [.slice (some ⟨g1, 0, none⟩) zs.length cap1], by omega, by go_num, by omega, by simp, ?_, ?_, HB2.out.trans ((below1 w2 _).mono (by omega))⟩
          · show Rts _ _ _ _ _ _
            rw [HN.out]
            exact HL2.out.below (below1 w2 _) (Nat.le_refl _)
          · have := World.ownsRow_lit (base := w2.heap.size) (e := 3) (size := 1) w2 #[.int .i64 0] 1 (by simp) (by unfold maxLen; omega) rfl
            show World.ownsRow _ _ _ _ _ _ _
            rw [HN.out]
            simpa [ints] using this
        case measure => simp [intOf]; omega
      · have hc8 : s[k] ≠ 47 := fun e => hc (by rw [e]; rfl)
        have h49 : 49 ≤ s[k].toNat := by rcases HBY.out k hlt with h | h; exact absurd h hc8; exact h
        have HN : Hid (rtGo (s.data.toList.take (k + 1)) = (st.1, st.2 ++ [(s[k].toNat : Int) - 48])) := by show _ = _; rw [HT.out, rtGo_snoc, hst]; unfold rtStep; rw [if_neg hc8]
        have e1 : ((s[k].toNat : Int) == 47) = false := by simp; omega
        clear hc8
        go_wp2_with (at_builtin; refine wpList_append_own _ rfl _ _ 40 rfl U 3 i0 (.int .i64 0) 1 8 Tryz.underlying40 hi hz0 hz1 hz2 rfl (by decide) _ _ _ rfl (HR.out.alloc _) ⟨wr.heap.size, 0, none⟩ 1 1 [.int .i64 ((s[k].toNat : Int) - 48)] rfl rfl ?c1 ?c2 ?c3 ?c4 ?c5 ?_)
        case c1 => exact cell_one_new _ _ _
        case c2 => intro u hu; simp at hu; subst hu; rfl
        case c3 => unfold maxLen; omega
        case c4 => omega
        case c5 => simp; omega
        intro v1 w1 hown1 hgr1 _
        have hgg1 : (wr.alloc (.cells #[.int .i64 ((s[k].toNat : Int) - 48)] 3)).grownBy w1 (Value.slice (some ⟨g, 0, none⟩) st.2.length capr).ownBlock := hgr1
        obtain ⟨zs, hzs⟩ : ∃ zs, zs = st.2 ++ [(s[k].toNat : Int) - 48] := ⟨_, rfl⟩
        have hzl : 0 < zs.length := by rw [hzs]; simp
        have HR1 : Hid (w1.ownsRow U 3 1 v1 zs.length (ints zs)) := by
          show World.ownsRow _ _ _ _ _ _ _
          rw [hzs]; exact (own_int (w := wr) hUw HR.out (Below.refl _ _) hown1 hgg1).1
        have HL1 : Hid (Rts w1 w.heap.size U (.slice al vs.length capl) st.1 vs) := (HL.out.below (below1 wr _) (Nat.le_refl _)).grown (own_below HR.out (below1 wr _)) (Nat.le_refl _) hgg1
        have HB1 : Hid (Below w.heap.size w w1) := (HB.out.trans ((below1 wr _).mono (by omega))).grown hgg1 (by simp; omega) (fun x hx => by have := (HR.out.lt x hx).1; omega)
        have hs1 : U ≤ w1.heap.size := by have h1 := hgg1.size; simp at h1; omega
        rw [← hzs] at HN
        clear hown1 hgr1 hgg1 HR HL HB hzs
        go_wp2
        go_roundw
        case rel =>
          refine ⟨k + 1, U, vs, by omega, by go_num, hU, hs1, ?_, ?_, HB1⟩
          · show Rts _ _ _ _ _ _
            rw [HN.out]; exact HL1.out
          · show World.ownsRow _ _ _ _ _ _ _
            rw [HN.out]; exact HR1.out
        case measure => simp [intOf]; omega
    · have hall : s.data.toList.take k = s.data.toList := take_all s k (by omega)
      by_cases hz : s.size = 0
      · have hnil : s.data.toList = [] := List.length_eq_zero_iff.1 (by simpa using hz)
        have HF : Hid (routesS s.data.toList = [] ∧ st.1 = []) := by
          refine ⟨by unfold routesS; rw [if_pos hnil], ?_⟩
          rw [← hst, hall, hnil]; rfl
        have HV : Hid (s.toList.isEmpty = s.data.toList.isEmpty) := is_void s
        have hv2 : s.toList.isEmpty = true := by rw [HV.out, hnil]; rfl
        go_wp2
        all_goals
          go_ret
          refine ⟨_, vs, rfl, ?_, HB.out⟩
          have := HL.out.below (Below.refl wr.heap.size wr) hUw
          rw [HF.out.2] at this
          rw [HF.out.1]; exact this
      · have hne : s.data.toList ≠ [] := fun e => hz (by have := congrArg List.length e; simpa using this)
        have HF : Hid (routesS s.data.toList = st.1 ++ [st.2 ++ [0]]) := by show _ = _; unfold routesS; rw [if_neg hne, ← hall, hst]
        have HV : Hid (s.toList.isEmpty = s.data.toList.isEmpty) := is_void s
        have hv2 : s.toList.isEmpty = false := by rw [HV.out]; simpa using hne
        clear hall hne
        go_wp2_with (at_builtin; refine wpList_append_own _ rfl _ _ 40 rfl U 3 i0 (.int .i64 0) 1 8 Tryz.underlying40 hi hz0 hz1 hz2 rfl (by decide) _ _ _ rfl (HR.out.alloc _) ⟨wr.heap.size, 0, none⟩ 1 1 [.int .i64 (0)] rfl rfl ?c1 ?c2 ?c3 ?c4 ?c5 ?_)
        case c1 => exact cell_one_new _ _ _
        case c2 => intro u hu; simp at hu; subst hu; rfl
        case c3 => unfold maxLen; omega
        case c4 => omega
        case c5 => simp; omega
        intro v1 w1 hown1 hgr1 _
        have hgg1 : (wr.alloc (.cells #[.int .i64 (0)] 3)).grownBy w1 (Value.slice (some ⟨g, 0, none⟩) st.2.length capr).ownBlock := hgr1
        obtain ⟨zs, hzs⟩ : ∃ zs, zs = st.2 ++ [0] := ⟨_, rfl⟩
        have hzl : 0 < zs.length := by rw [hzs]; simp
        have HR1 : Hid (w1.ownsRow U 3 1 v1 zs.length (ints zs)) := by
          show World.ownsRow _ _ _ _ _ _ _
          rw [hzs]; exact (own_int (w := wr) hUw HR.out (Below.refl _ _) hown1 hgg1).1
        have HL1 : Hid (Rts w1 w.heap.size U (.slice al vs.length capl) st.1 vs) := (HL.out.below (below1 wr _) (Nat.le_refl _)).grown (own_below HR.out (below1 wr _)) (Nat.le_refl _) hgg1
        have HB1 : Hid (Below w.heap.size w w1) := (HB.out.trans ((below1 wr _).mono (by omega))).grown hgg1 (by simp; omega) (fun x hx => by have := (HR.out.lt x hx).1; omega)
        have hs1 : U ≤ w1.heap.size := by have h1 := hgg1.size; simp at h1; omega
        rw [← hzs] at HF
        clear hown1 hgr1 hgg1 HR HL HB hzs
        obtain ⟨g1, cap1, cur1, rfl, _, _, _⟩ := own_shape HR1.out hzl
        go_wp2_with (at_builtin; refine wpList_append_own _ rfl _ _ 31 rfl w.heap.size 40 j0 (.slice none 0 0) 1 24 Tryz.underlying31 hj hy0 hy1 hy2 rfl (by decide) _ _ _ rfl ((HL1.out.own).alloc _) ⟨w1.heap.size, 0, none⟩ 1 1 [.slice (some ⟨g1, 0, none⟩) zs.length cap1] rfl rfl ?d1 ?d2 ?d3 ?d4 ?d5 ?_)
        case d1 => exact news_at rfl rfl
        case d2 => intro u hu; simp at hu; subst hu; rfl
        case d3 => unfold maxLen; omega
        case d4 => omega
        case d5 => simp; omega
        intro v2 w2 hown2 hgr2 _
        have hgg2 : (w1.alloc (.cells #[.slice (some ⟨g1, 0, none⟩) zs.length cap1] 40)).grownBy w2 (Value.slice al vs.length capl).ownBlock := hgr2
        have HL2 : Hid (Rts w2 w.heap.size w2.heap.size v2 (st.1 ++ [zs]) (vs ++ [.slice (some ⟨g1, 0, none⟩) zs.length cap1])) := HL1.out.push HR1.out hzl (by omega) (below1 w1 _) hgg2 hown2
        have HB2 : Hid (Below w.heap.size w w2) := (HB1.out.trans ((below1 w1 _).mono (by omega))).grown hgg2 (by simp; omega) (fun x hx => (HL1.out.own.lt x hx).1)
        have hs2 : w1.heap.size ≤ w2.heap.size := by have h1 := hgg2.size; simp at h1; omega
        clear hown2 hgr2 hgg2 HR1 HL1 HB1
        go_wp2
        go_ret
        refine ⟨_, vs ++ [.slice (some ⟨g1, 0, none⟩) zs.length cap1], rfl, ?_, HB2.out⟩
        rw [HF.out]; exact HL2.out
end Go.Proofs.YtebinaopncclgabGreatDoor
namespace Go.Proofs.YtebinaopncclgabGreatDoor
open Go.RowKit Go.IntWalk

/- routes that are read -/
def RtR (w : World) (v : Value) (L : List (List Int)) : Prop :=
  ∃ ao c, v = .slice ao L.length c ∧ L.length ≤ 1000 ∧ ∀ i (h : i < L.length), ∃ g gi ci, ao = some ⟨g, 0, none⟩ ∧ g < w.heap.size ∧ w.cell? ⟨g, i, none⟩ = some (.slice (some ⟨gi, 0, none⟩) L[i].length ci) ∧ gi < w.heap.size ∧ ∀ j (hj : j < L[i].length), w.cell? ⟨gi, j, none⟩ = some (.int .i64 L[i][j])
theorem Rts.read {w : World} {B U : Nat} {v : Value} {L : List (List Int)} {vs : List Value} (h : Rts w B U v L vs) (hl : L.length ≤ 1000) : RtR w v L := by
  obtain ⟨ao, c, hv, _, _⟩ := own_val h.own
  rw [h.len] at hv
  refine ⟨ao, c, hv, hl, fun i hi => ?_⟩
  obtain ⟨g, c', gi, ci, e, h1, h2, h3, h4⟩ := h.at hi
  rw [hv] at e
  cases e
  exact ⟨g, gi, ci, rfl, h1, h2, h3, h4⟩
theorem RtR.below {w w' : World} {v : Value} {L : List (List Int)} (h : RtR w v L) (hb : Below w.heap.size w w') : RtR w' v L := by
  obtain ⟨ao, c, h1, h2, h3⟩ := h
  refine ⟨ao, c, h1, h2, fun i hi => ?_⟩
  obtain ⟨g, gi, ci, k1, k2, k3, k4, k5⟩ := h3 i hi
  exact ⟨g, gi, ci, k1, Nat.lt_of_lt_of_le k2 hb.size, (hb.cell (by exact k2)).trans k3, Nat.lt_of_lt_of_le k4 hb.size, fun j hj => (hb.cell (by exact k4)).trans (k5 j hj)⟩

/- the k-th way of a route -/
def legD (D : Nat → Nat → Int) (l : List Int) (k : Nat) : Int := D (l.getD k 0).toNat (l.getD (k + 1) 0).toNat
def wayOk (D : Nat → Nat → Int) (l : List Int) : Bool := (List.range (l.length - 1)).all fun k => decide (legD D l k ≠ -1)

set_option maxRecDepth 100000 in
set_option maxHeartbeats 2000000 in
theorem allHaveWays_any (p n : Nat) (D : Nat → Nat → Int) (L : List (List Int)) (vf v : Value) (w : World) (hp : p < w.heap.size) (hf : w.cell? ⟨p, 7, none⟩ = some vf) (hq : SqR w vf n D) (hr : RtR w v L) (hx : ∀ l ∈ L, l.length ≤ 1000 ∧ ∀ x ∈ l, 0 ≤ x ∧ x < n) :
    Calls Tryz.prog 169 #[.pointer (some ⟨p, 0, none⟩), v] w fun e w' => e = .returned (.bool (L.all (wayOk D))) ∧ Below w.heap.size w w' := by
  obtain ⟨af, cf, rfl, hn, hsq⟩ := hq
  obtain ⟨ao, co, rfl, hL, hrt⟩ := hr
  have HSQ := hid hsq
  have HRT := hid hrt
  have HX := hid hx
  clear hsq hrt hx
  go_enter Tryz.func169, Tryz.ntmps169
  go_wp2_with fail
  go_loopw [5] (fun i wr => ∃ a : Nat, a ≤ L.length ∧ i = .int .i64 a ∧ Hid ((L.take a).all (wayOk D) = true) ∧ Hid (Below w.heap.size w wr)) (fun i _ => L.length - (intOf i).toNat)
  case atStart => exact ⟨0, Nat.zero_le _, rfl, rfl, Below.refl _ _⟩
  case round =>
    obtain ⟨a, ha, rfl, HA, HB⟩ := hrel
    by_cases hlt : a < L.length
    · obtain ⟨g, gi, ci, rfl, hg, hc, hgi, hrow⟩ := HRT.out a hlt
      obtain ⟨l, hl⟩ : ∃ l, l = L[a] := ⟨_, rfl⟩
      have hmem : l ∈ L := by rw [hl]; exact List.getElem_mem _
      have hll := (HX.out l hmem).1
      have HLX : Hid (∀ x ∈ l, 0 ≤ x ∧ x < n) := (HX.out l hmem).2
      have HROW : Hid (∀ j (hj : j < l.length), w.cell? ⟨gi, j, none⟩ = some (.int .i64 l[j])) := by
        intro j hj; subst hl; exact hrow j hj
      rw [← hl] at hc
      have HC := hid hc
      have hc : wr.cell? ⟨g, a, none⟩ = _ := (HB.out.cell (by exact hg)).trans HC.out
      have hgw : g < wr.heap.size := Nat.lt_of_lt_of_le hg HB.out.size
      have HT : Hid ((L.take (a + 1)).all (wayOk D) = wayOk D l) := by
        show _ = _
        rw [List.take_succ_eq_append_getElem hlt, List.all_append, HA.out, ← hl]; simp
      have HNO : Hid (wayOk D l = false → L.all (wayOk D) = false) := fun h => List.all_eq_false.2 ⟨l, hmem, by rw [h]; simp⟩
      clear hrow hl hmem
      go_wp2_with fail
      go_loopw [6] (fun k wr => ∃ q : Nat, q ≤ l.length - 1 ∧ k = .int .i64 (q + 1 : Nat) ∧ Hid (∀ j, j < q → legD D l j ≠ -1) ∧ Hid (Below w.heap.size w wr)) (fun k _ => l.length - (intOf k).toNat)
      case atStart => exact ⟨0, Nat.zero_le _, rfl, fun j hj => absurd hj (by omega), HB⟩
      case round =>
        clear HB hc hgw
        obtain ⟨q, hq, rfl, HQ, HB⟩ := hrel
        have hc : wr.cell? ⟨g, a, none⟩ = _ := (HB.out.cell (by exact hg)).trans HC.out
        have hgw : g < wr.heap.size := Nat.lt_of_lt_of_le hg HB.out.size
        have hiw : gi < wr.heap.size := Nat.lt_of_lt_of_le hgi HB.out.size
        have hpw : p < wr.heap.size := Nat.lt_of_lt_of_le hp HB.out.size
        by_cases hql : q + 1 < l.length
        · obtain ⟨x, hx⟩ : ∃ x, x = l[q] := ⟨_, rfl⟩
          obtain ⟨y, hy⟩ : ∃ y, y = l[q + 1] := ⟨_, rfl⟩
          have hx1 := HLX.out x (by rw [hx]; exact List.getElem_mem _)
          have hy1 := HLX.out y (by rw [hy]; exact List.getElem_mem _)
          have x0 : wr.cell? ⟨gi, q, none⟩ = _ := (HB.out.cell (by exact hgi)).trans (HROW.out q (by omega))
          have y0 : wr.cell? ⟨gi, q + 1, none⟩ = _ := (HB.out.cell (by exact hgi)).trans (HROW.out (q + 1) hql)
          rw [← hx] at x0
          rw [← hy] at y0
          obtain ⟨xn, rfl⟩ : ∃ xn : Nat, x = xn := ⟨x.toNat, by omega⟩
          obtain ⟨yn, rfl⟩ : ∃ yn : Nat, y = yn := ⟨y.toNat, by omega⟩
          obtain ⟨fg, fgi, fci, rfl, hfg, hfc, hfgi, hfr⟩ := HSQ.out xn (by omega)
          have hd : wr.cell? ⟨fgi, yn, none⟩ = _ := (HB.out.cell (by exact hfgi)).trans (hfr yn (by omega))
          have hfw : wr.cell? ⟨fg, xn, none⟩ = _ := (HB.out.cell (by exact hfg)).trans hfc
          have hp7 : wr.cell? ⟨p, 7, none⟩ = _ := (HB.out.cell (by exact hp)).trans hf
          have hgf : fg < wr.heap.size := Nat.lt_of_lt_of_le hfg HB.out.size
          have hgif : fgi < wr.heap.size := Nat.lt_of_lt_of_le hfgi HB.out.size
          have ia : (0 : Int) ≤ (a : Int) := by omega
          have ja : (a : Int) < (L.length : Int) := by omega
          have iq : (0 : Int) ≤ (q : Int) := by omega
          have jq : (q : Int) < (l.length : Int) := by omega
          have iq1 : (0 : Int) ≤ (q : Int) + 1 := by omega
          have jq1 : (q : Int) + 1 < (l.length : Int) := by omega
          have ix : (0 : Int) ≤ (xn : Int) := by omega
          have jx : (xn : Int) < (n : Int) := by omega
          have iy : (0 : Int) ≤ (yn : Int) := by omega
          have jy : (yn : Int) < (n : Int) := by omega
          have hww : IntKind.i64.wrap ((q : Int) + 1 - 1) = q := by rw [show (q : Int) + 1 - 1 = q by omega]; exact i64_fits _ (by omega)
          have hww2 : IntKind.i64.wrap (q : Int) = q := i64_fits _ (by omega)
          have htn : ((q : Int) + 1).toNat = q + 1 := by omega
          have HD : Hid (legD D l q = D xn yn) := by
            show _ = _
            unfold legD
            rw [List.getD_eq_getElem?_getD, List.getD_eq_getElem?_getD, List.getElem?_eq_getElem (by omega), List.getElem?_eq_getElem hql, Option.getD_some, Option.getD_some, ← hx, ← hy]; simp
          generalize hdd : D xn yn = d at *
          clear hfr hx hy hdd
          by_cases hno : d = -1
          · subst hno
            have HF : Hid (L.all (wayOk D) = false) := HNO.out (List.all_eq_false.2 ⟨q, by simp; omega, by rw [HD.out]; simp⟩)
            go_wp2_with fail
            go_region_held3 (fun w' => w'.cell? ⟨p, 7, none⟩ = some (.slice (some ⟨fg, 0, none⟩) n cf) ∧ w'.cell? ⟨g, a, none⟩ = some (.slice (some ⟨gi, 0, none⟩) l.length ci) ∧ w'.cell? ⟨gi, q, none⟩ = some (.int .i64 xn) ∧ w'.cell? ⟨gi, q + 1, none⟩ = some (.int .i64 yn) ∧ w'.cell? ⟨fg, xn, none⟩ = some (.slice (some ⟨fgi, 0, none⟩) n fci) ∧ w'.cell? ⟨fgi, yn, none⟩ = some (.int .i64 (-1))) (go_keep) (fail)
            go_wp2
            go_ret
            exact ⟨ret_bool HF.out.symm, by first | exact HB.out | exact HB.out.drew⟩
          · have e1 : (d == (-1 : Int)) = false := by simpa using hno
            go_wp2_with fail
            go_region_held3 (fun w' => w'.cell? ⟨p, 7, none⟩ = some (.slice (some ⟨fg, 0, none⟩) n cf) ∧ w'.cell? ⟨g, a, none⟩ = some (.slice (some ⟨gi, 0, none⟩) l.length ci) ∧ w'.cell? ⟨gi, q, none⟩ = some (.int .i64 xn) ∧ w'.cell? ⟨gi, q + 1, none⟩ = some (.int .i64 yn) ∧ w'.cell? ⟨fg, xn, none⟩ = some (.slice (some ⟨fgi, 0, none⟩) n fci) ∧ w'.cell? ⟨fgi, yn, none⟩ = some (.int .i64 d)) (go_keep) (fail)
            go_wp2
            go_roundw
            case rel => exact ⟨q + 1, by omega, by go_num, fun j hj => by
              by_cases h : j = q
              · subst h; rw [HD.out]; exact hno
              · exact HQ.out j (by omega), by first | exact HB.out | exact HB.out.drew⟩
            case measure => simp [intOf]; omega
        · have HF : Hid (wayOk D l = true) := List.all_eq_true.2 fun k hk => by
            have : k < l.length - 1 := by simpa using hk
            simpa using HQ.out k (by omega)
          go_wp2
          go_roundw
          case rel => exact ⟨a + 1, by omega, by go_num, by show _ = true; rw [HT.out]; exact HF.out, HB⟩
          case measure => simp [intOf]; omega
    · have HF : Hid (L.all (wayOk D) = true) := by have := HA.out; rw [List.take_of_length_le (by omega)] at this; exact this
      go_wp2
      go_ret
      exact ⟨ret_bool HF.out.symm, by first | exact HB.out | exact HB.out.drew⟩
end Go.Proofs.YtebinaopncclgabGreatDoor
namespace Go.Proofs.YtebinaopncclgabGreatDoor
open Go.RowKit Go.IntWalk

/- the length of a route's first ways, of a route, of all routes -/
def rtTo (D : Nat → Nat → Int) (l : List Int) (q : Nat) : Int := ((List.range q).map (legD D l)).sum
def lenTo (D : Nat → Nat → Int) (L : List (List Int)) : Int := (L.map fun l => rtTo D l (l.length - 1)).sum
theorem rtTo_succ (D : Nat → Nat → Int) (l : List Int) (q : Nat) : rtTo D l (q + 1) = rtTo D l q + legD D l q := by simp [rtTo, List.range_succ]
theorem lenTo_snoc (D : Nat → Nat → Int) (L : List (List Int)) (l : List Int) : lenTo D (L ++ [l]) = lenTo D L + rtTo D l (l.length - 1) := by simp [lenTo]

set_option maxRecDepth 100000 in
set_option maxHeartbeats 2000000 in
theorem length_any (p n : Nat) (D : Nat → Nat → Int) (L : List (List Int)) (vf v : Value) (w : World) (hp : p < w.heap.size) (hf : w.cell? ⟨p, 7, none⟩ = some vf) (hq : SqR w vf n D) (hD : ∀ a b, a < n → b < n → -1 ≤ D a b ∧ D a b ≤ 40960000) (hr : RtR w v L) (hx : ∀ l ∈ L, l.length ≤ 1000 ∧ ∀ x ∈ l, 0 ≤ x ∧ x < n) :
    Calls Tryz.prog 171 #[.pointer (some ⟨p, 0, none⟩), v] w fun e w' => e = .returned (.int .i64 (lenTo D L)) ∧ Below w.heap.size w w' := by
  obtain ⟨af, cf, rfl, hn, hsq⟩ := hq
  obtain ⟨ao, co, rfl, hL, hrt⟩ := hr
  have HSQ := hid hsq
  have HRT := hid hrt
  have HX := hid hx
  have HDD := hid hD
  clear hsq hrt hx hD
  go_enter Tryz.func171, Tryz.ntmps171
  go_wp2_with fail
  go_loopw [5, 6] (fun sm i wr => ∃ (a : Nat) (S : Int), a ≤ L.length ∧ i = .int .i64 a ∧ sm = .int .i64 S ∧ (-(a : Int) * 40960000000 ≤ S ∧ S ≤ (a : Int) * 40960000000) ∧ Hid (S = lenTo D (L.take a)) ∧ Hid (Below w.heap.size w wr)) (fun _ i _ => L.length - (intOf i).toNat)
  case atStart => exact ⟨0, 0, Nat.zero_le _, rfl, rfl, by omega, rfl, Below.refl _ _⟩
  case round =>
    obtain ⟨a, S, ha, rfl, rfl, hS, HA, HB⟩ := hrel
    by_cases hlt : a < L.length
    · obtain ⟨g, gi, ci, rfl, hg, hc, hgi, hrow⟩ := HRT.out a hlt
      obtain ⟨l, hl⟩ : ∃ l, l = L[a] := ⟨_, rfl⟩
      have hmem : l ∈ L := by rw [hl]; exact List.getElem_mem _
      have hll := (HX.out l hmem).1
      have HLX : Hid (∀ x ∈ l, 0 ≤ x ∧ x < n) := (HX.out l hmem).2
      have HROW : Hid (∀ j (hj : j < l.length), w.cell? ⟨gi, j, none⟩ = some (.int .i64 l[j])) := by
        intro j hj; subst hl; exact hrow j hj
      rw [← hl] at hc
      have HC := hid hc
      have hc : wr.cell? ⟨g, a, none⟩ = _ := (HB.out.cell (by exact hg)).trans HC.out
      have hgw : g < wr.heap.size := Nat.lt_of_lt_of_le hg HB.out.size
      have HT : Hid (lenTo D (L.take (a + 1)) = S + rtTo D l (l.length - 1)) := by
        show _ = _
        rw [List.take_succ_eq_append_getElem hlt, lenTo_snoc, ← HA.out, ← hl]
      clear hrow hl hmem
      go_wp2_with fail
      go_loopw [5, 7] (fun sm k wr => ∃ (q : Nat) (T : Int), q ≤ l.length - 1 ∧ k = .int .i64 (q + 1 : Nat) ∧ sm = .int .i64 (S + T) ∧ (-(q : Int) * 40960000 ≤ T ∧ T ≤ (q : Int) * 40960000) ∧ Hid (T = rtTo D l q) ∧ Hid (Below w.heap.size w wr)) (fun _ k _ => l.length - (intOf k).toNat)
      case atStart => exact ⟨0, 0, Nat.zero_le _, rfl, by go_num, by omega, rfl, HB⟩
      case round =>
        clear HB hc hgw
        obtain ⟨q, T, hq, rfl, rfl, hT, HQ, HB⟩ := hrel
        have hc : wr.cell? ⟨g, a, none⟩ = _ := (HB.out.cell (by exact hg)).trans HC.out
        have hgw : g < wr.heap.size := Nat.lt_of_lt_of_le hg HB.out.size
        have hiw : gi < wr.heap.size := Nat.lt_of_lt_of_le hgi HB.out.size
        have hpw : p < wr.heap.size := Nat.lt_of_lt_of_le hp HB.out.size
        by_cases hql : q + 1 < l.length
        · obtain ⟨x, hx⟩ : ∃ x, x = l[q] := ⟨_, rfl⟩
          obtain ⟨y, hy⟩ : ∃ y, y = l[q + 1] := ⟨_, rfl⟩
          have hx1 := HLX.out x (by rw [hx]; exact List.getElem_mem _)
          have hy1 := HLX.out y (by rw [hy]; exact List.getElem_mem _)
          have x0 : wr.cell? ⟨gi, q, none⟩ = _ := (HB.out.cell (by exact hgi)).trans (HROW.out q (by omega))
          have y0 : wr.cell? ⟨gi, q + 1, none⟩ = _ := (HB.out.cell (by exact hgi)).trans (HROW.out (q + 1) hql)
          rw [← hx] at x0
          rw [← hy] at y0
          obtain ⟨xn, rfl⟩ : ∃ xn : Nat, x = xn := ⟨x.toNat, by omega⟩
          obtain ⟨yn, rfl⟩ : ∃ yn : Nat, y = yn := ⟨y.toNat, by omega⟩
          obtain ⟨fg, fgi, fci, rfl, hfg, hfc, hfgi, hfr⟩ := HSQ.out xn (by omega)
          have hd : wr.cell? ⟨fgi, yn, none⟩ = _ := (HB.out.cell (by exact hfgi)).trans (hfr yn (by omega))
          have hfw : wr.cell? ⟨fg, xn, none⟩ = _ := (HB.out.cell (by exact hfg)).trans hfc
          have hp7 : wr.cell? ⟨p, 7, none⟩ = _ := (HB.out.cell (by exact hp)).trans hf
          have hgf : fg < wr.heap.size := Nat.lt_of_lt_of_le hfg HB.out.size
          have hgif : fgi < wr.heap.size := Nat.lt_of_lt_of_le hfgi HB.out.size
          have ia : (0 : Int) ≤ (a : Int) := by omega
          have ja : (a : Int) < (L.length : Int) := by omega
          have iq : (0 : Int) ≤ (q : Int) := by omega
          have jq : (q : Int) < (l.length : Int) := by omega
          have iq1 : (0 : Int) ≤ (q : Int) + 1 := by omega
          have jq1 : (q : Int) + 1 < (l.length : Int) := by omega
          have ix : (0 : Int) ≤ (xn : Int) := by omega
          have jx : (xn : Int) < (n : Int) := by omega
          have iy : (0 : Int) ≤ (yn : Int) := by omega
          have jy : (yn : Int) < (n : Int) := by omega
          have hww : IntKind.i64.wrap ((q : Int) + 1 - 1) = q := by rw [show (q : Int) + 1 - 1 = q by omega]; exact i64_fits _ (by omega)
          have hww2 : IntKind.i64.wrap (q : Int) = q := i64_fits _ (by omega)
          have htn : ((q : Int) + 1).toNat = q + 1 := by omega
          have HD : Hid (legD D l q = D xn yn) := by
            show _ = _
            unfold legD
            rw [List.getD_eq_getElem?_getD, List.getD_eq_getElem?_getD, List.getElem?_eq_getElem (by omega), List.getElem?_eq_getElem hql, Option.getD_some, Option.getD_some, ← hx, ← hy]; simp
          have hdb := HDD.out xn yn (by omega) (by omega)
          generalize hdd : D xn yn = d at *
          have hws : IntKind.i64.wrap (S + T + d) = S + T + d := i64_fits _ (by omega)
          clear hfr hx hy hdd
          go_wp2_with fail
          go_region_held3 (fun w' => w'.cell? ⟨p, 7, none⟩ = some (.slice (some ⟨fg, 0, none⟩) n cf) ∧ w'.cell? ⟨g, a, none⟩ = some (.slice (some ⟨gi, 0, none⟩) l.length ci) ∧ w'.cell? ⟨gi, q, none⟩ = some (.int .i64 xn) ∧ w'.cell? ⟨gi, q + 1, none⟩ = some (.int .i64 yn) ∧ w'.cell? ⟨fg, xn, none⟩ = some (.slice (some ⟨fgi, 0, none⟩) n fci) ∧ w'.cell? ⟨fgi, yn, none⟩ = some (.int .i64 d)) (go_keep) (fail)
          go_wp2
          go_roundw
          case rel => exact ⟨q + 1, T + d, by omega, by go_num, by rw [← Int.add_assoc], by omega, by show _ = _; rw [rtTo_succ, HD.out, HQ.out], by first | exact HB.out | exact HB.out.drew⟩
          case measure => simp [intOf]; omega
        · have hql2 : q = l.length - 1 := by omega
          have HF : Hid (S + T = lenTo D (L.take (a + 1))) := by show _ = _; rw [HT.out, HQ.out, hql2]
          clear hql2
          go_wp2
          go_roundw
          case rel => exact ⟨a + 1, S + T, by omega, by go_num, rfl, by omega, HF, HB⟩
          case measure => simp [intOf]; omega
    · have HF : Hid (S = lenTo D L) := by have := HA.out; rw [List.take_of_length_le (by omega)] at this; exact this
      go_wp2
      go_ret
      exact ⟨ret_int HF.out, by first | exact HB.out | exact HB.out.drew⟩
end Go.Proofs.YtebinaopncclgabGreatDoor
namespace Go.Proofs.YtebinaopncclgabGreatDoor
open Go.RowKit Go.IntWalk

/- the stops, read -/
def StR (w : World) (v : Value) (r : Rd) : Prop :=
  ∃ ao c, v = .slice ao r.stops.length c ∧ ∀ i (h : i < r.stops.length), ∃ g, ao = some ⟨g, 0, none⟩ ∧ g < w.heap.size ∧ ∀ j z, j < 5 → r.stops[i][j]? = some z → w.cell? ⟨g, i * 5 + j, none⟩ = some (.int .i64 z)
/- a number of a site's stop -/
def stopV (r : Rd) (x j : Nat) : Int := (r.stops.getD (x - 1) []).getD j 0
def wantTo (r : Rd) (l : List Int) : Int := (l.map fun x => if x = 0 then 0 else stopV r x.toNat 1).sum
def loadOk (r : Rd) (l : List Int) : Bool := decide (wantTo r l ≤ r.load)
theorem wantTo_snoc (r : Rd) (l : List Int) (x : Int) : wantTo r (l ++ [x]) = wantTo r l + (if x = 0 then 0 else stopV r x.toNat 1) := by simp [wantTo]

set_option maxRecDepth 100000 in
set_option maxHeartbeats 2000000 in
theorem allLoad_any (p : Nat) (r : Rd) (L : List (List Int)) (vs v : Value) (w : World) (hp : p < w.heap.size) (hok : RdOk r) (h1 : w.cell? ⟨p, 1, none⟩ = some (.int .i64 r.load)) (h5 : w.cell? ⟨p, 5, none⟩ = some vs) (hs : StR w vs r) (hr : RtR w v L) (hx : ∀ l ∈ L, l.length ≤ 1000 ∧ ∀ x ∈ l, 0 ≤ x ∧ x < r.stops.length + 1) :
    Calls Tryz.prog 168 #[.pointer (some ⟨p, 0, none⟩), v] w fun e w' => e = .returned (.bool (L.all (loadOk r))) ∧ Below w.heap.size w w' := by
  obtain ⟨ast, cs, rfl, hst⟩ := hs
  obtain ⟨ao, co, rfl, hL, hrt⟩ := hr
  have hn := hok.nstops
  have HST := hid hst
  have HRT := hid hrt
  have HX := hid hx
  have HOK := hid hok
  clear hst hrt hx hok
  go_enter Tryz.func168, Tryz.ntmps168
  go_wp2_with fail
  go_loopw [5] (fun i wr => ∃ a : Nat, a ≤ L.length ∧ i = .int .i64 a ∧ Hid ((L.take a).all (loadOk r) = true) ∧ Hid (Below w.heap.size w wr)) (fun i _ => L.length - (intOf i).toNat)
  case atStart => exact ⟨0, Nat.zero_le _, rfl, rfl, Below.refl _ _⟩
  case round =>
    obtain ⟨a, ha, rfl, HA, HB⟩ := hrel
    by_cases hlt : a < L.length
    · obtain ⟨g, gi, ci, rfl, hg, hc, hgi, hrow⟩ := HRT.out a hlt
      obtain ⟨l, hl⟩ : ∃ l, l = L[a] := ⟨_, rfl⟩
      have hmem : l ∈ L := by rw [hl]; exact List.getElem_mem _
      have hll := (HX.out l hmem).1
      have HLX : Hid (∀ x ∈ l, 0 ≤ x ∧ x < r.stops.length + 1) := (HX.out l hmem).2
      have HROW : Hid (∀ j (hj : j < l.length), w.cell? ⟨gi, j, none⟩ = some (.int .i64 l[j])) := by
        intro j hj; subst hl; exact hrow j hj
      rw [← hl] at hc
      have HC := hid hc
      have hc : wr.cell? ⟨g, a, none⟩ = _ := (HB.out.cell (by exact hg)).trans HC.out
      have hgw : g < wr.heap.size := Nat.lt_of_lt_of_le hg HB.out.size
      have HT : Hid ((L.take (a + 1)).all (loadOk r) = loadOk r l) := by
        show _ = _
        rw [List.take_succ_eq_append_getElem hlt, List.all_append, HA.out, ← hl]; simp
      have HNO : Hid (loadOk r l = false → L.all (loadOk r) = false) := fun h => List.all_eq_false.2 ⟨l, hmem, by rw [h]; simp⟩
      clear hrow hl hmem
      go_wp2_with fail
      go_loopw [6, 7] (fun sm k wr => ∃ (q : Nat) (T : Int), q ≤ l.length ∧ k = .int .i64 q ∧ sm = .int .i64 T ∧ (0 ≤ T ∧ T ≤ (q : Int) * 10000) ∧ Hid (T = wantTo r (l.take q)) ∧ Hid (Below w.heap.size w wr)) (fun _ k _ => l.length - (intOf k).toNat)
      case atStart => exact ⟨0, 0, Nat.zero_le _, rfl, rfl, by omega, rfl, HB⟩
      case round =>
        clear HB hc hgw
        obtain ⟨q, T, hq, rfl, rfl, hT, HQ, HB⟩ := hrel
        have hc : wr.cell? ⟨g, a, none⟩ = _ := (HB.out.cell (by exact hg)).trans HC.out
        have hgw : g < wr.heap.size := Nat.lt_of_lt_of_le hg HB.out.size
        have hiw : gi < wr.heap.size := Nat.lt_of_lt_of_le hgi HB.out.size
        have hpw : p < wr.heap.size := Nat.lt_of_lt_of_le hp HB.out.size
        have hp1 : wr.cell? ⟨p, 1, none⟩ = _ := (HB.out.cell (by exact hp)).trans h1
        by_cases hql : q < l.length
        · obtain ⟨x, hx⟩ : ∃ x, x = l[q] := ⟨_, rfl⟩
          have hx1 := HLX.out x (by rw [hx]; exact List.getElem_mem _)
          have x0 : wr.cell? ⟨gi, q, none⟩ = _ := (HB.out.cell (by exact hgi)).trans (HROW.out q hql)
          rw [← hx] at x0
          have HN : Hid (wantTo r (l.take (q + 1)) = T + (if x = 0 then 0 else stopV r x.toNat 1)) := by
            show _ = _
            rw [List.take_succ_eq_append_getElem hql, wantTo_snoc, ← HQ.out, ← hx]
          obtain ⟨xn, rfl⟩ : ∃ xn : Nat, x = xn := ⟨x.toNat, by omega⟩
          clear hx
          by_cases hz : xn = 0
          · subst hz
            go_wp2_with go_in
            go_roundw
            case rel => exact ⟨q + 1, T, by omega, by go_num, rfl, by omega, by show _ = _; rw [HN.out]; simp, by first | exact HB.out | exact HB.out.drew⟩
            case measure => simp [intOf]; omega
          · obtain ⟨m, rfl⟩ : ∃ m, xn = m + 1 := ⟨xn - 1, by omega⟩
            obtain ⟨sg, rfl, hsg, hsc⟩ := HST.out m (by omega)
            obtain ⟨b0, b1, b2, b3, b4, hab, hsk⟩ := HOK.out.stops _ (List.getElem_mem (show m < r.stops.length by omega))
            have hw1 : wr.cell? ⟨sg, m * 5 + 1, none⟩ = some (.int .i64 b1) := (HB.out.cell (by exact hsg)).trans (hsc 1 b1 (by omega) (by rw [hab]; rfl))
            have hp5 : wr.cell? ⟨p, 5, none⟩ = _ := (HB.out.cell (by exact hp)).trans h5
            have hsw : sg < wr.heap.size := Nat.lt_of_lt_of_le hsg HB.out.size
            have hV : stopV r (m + 1) 1 = b1 := by
              have hg' : r.stops.getD m [] = [b0, b1, b2, b3, b4] := by rw [List.getD_eq_getElem?_getD, List.getElem?_eq_getElem (show m < r.stops.length by omega), Option.getD_some, hab]
              unfold stopV
              rw [Nat.add_sub_cancel, hg']; rfl
            have hbb : 0 ≤ b1 ∧ b1 ≤ 10000 := by
              simp only [stopOk, Bool.and_eq_true, fit_iff, decide_eq_true_eq] at hsk
              omega
            have HN2 : Hid (wantTo r (l.take (q + 1)) = T + b1) := by
              show _ = _
              rw [HN.out, if_neg (by omega), show ((m + 1 : Nat) : Int).toNat = m + 1 by omega, hV]
            clear hsc hab hsk hV HN hz
            go_wp2_with go_in
            go_roundw
            case rel => exact ⟨q + 1, T + b1, by omega, by go_num, rfl, by omega, HN2.out.symm, by first | exact HB.out | exact HB.out.drew⟩
            case measure => simp [intOf]; omega
        · have HTQ : Hid (T = wantTo r l) := by have := HQ.out; rw [List.take_of_length_le (by omega)] at this; exact this
          by_cases hgt : r.load < T
          · have HF : Hid (L.all (loadOk r) = false) := HNO.out (by unfold loadOk; rw [← HTQ.out]; simpa using hgt)
            go_wp2_with go_in
            go_ret
            exact ⟨ret_bool HF.out.symm, by first | exact HB.out | exact HB.out.drew⟩
          · have HF : Hid (loadOk r l = true) := by show _ = _; unfold loadOk; rw [← HTQ.out]; simpa using hgt
            go_wp2_with go_in
            go_roundw
            case rel => exact ⟨a + 1, by omega, by go_num, by show _ = true; rw [HT.out]; exact HF.out, by first | exact HB.out | exact HB.out.drew⟩
            case measure => simp [intOf]; omega
    · have HF : Hid (L.all (loadOk r) = true) := by have := HA.out; rw [List.take_of_length_le (by omega)] at this; exact this
      go_wp2
      go_ret
      exact ⟨ret_bool HF.out.symm, HB.out⟩
end Go.Proofs.YtebinaopncclgabGreatDoor
namespace Go.Proofs.YtebinaopncclgabGreatDoor
open Go.RowKit Go.IntWalk

/- when the van goes on behind the q-th way of a route; none, if it was late; and the starts by then -/
def startS (r : Rd) (D : Nat → Nat → Int) (l : List Int) (q : Nat) (t : Int) : Int :=
  if t + legD D l q < stopV r (l.getD (q + 1) 0).toNat 2 then stopV r (l.getD (q + 1) 0).toNat 2 else t + legD D l q
def tmStep (r : Rd) (D : Nat → Nat → Int) (l : List Int) (st : Option (Int × List Int)) (q : Nat) : Option (Int × List Int) :=
  match st with
  | none => none
  | some (t, S) =>
    if l.getD (q + 1) 0 = 0 then some (t + legD D l q, S)
    else if stopV r (l.getD (q + 1) 0).toNat 3 < startS r D l q t then none
    else some (startS r D l q t + stopV r (l.getD (q + 1) 0).toNat 4, S.set ((l.getD (q + 1) 0).toNat - 1) (startS r D l q t))
def tmGo (r : Rd) (D : Nat → Nat → Int) (l : List Int) (S : List Int) (q : Nat) : Option (Int × List Int) := (List.range q).foldl (tmStep r D l) (some (0, S))
theorem tmGo_succ (r : Rd) (D : Nat → Nat → Int) (l S : List Int) (q : Nat) : tmGo r D l S (q + 1) = tmStep r D l (tmGo r D l S q) q := by simp [tmGo, List.range_succ]
theorem tmGo_none (r : Rd) (D : Nat → Nat → Int) (l S : List Int) (q k : Nat) (h : tmGo r D l S q = none) : tmGo r D l S (q + k) = none := by
  induction k with
  | zero => exact h
  | succ k ih => rw [← Nat.add_assoc, tmGo_succ, ih]; rfl
/- what the route leaves: none, if it is late -/
def timeS (r : Rd) (D : Nat → Nat → Int) (l S : List Int) : Option (List Int) :=
  match tmGo r D l S (l.length - 1) with
  | none => none
  | some (t, S') => if t ≤ r.close then some S' else none

/- the same, site by site: what the program goes through; the depot may stand at either end -/
def legN (D : Nat → Nat → Int) (l : List Int) (k : Nat) : Int := if k = 0 then 0 else legD D l (k - 1)
def startN (r : Rd) (D : Nat → Nat → Int) (l : List Int) (k : Nat) (t : Int) : Int :=
  if t + legN D l k < stopV r (l.getD k 0).toNat 2 then stopV r (l.getD k 0).toNat 2 else t + legN D l k
def tmStepN (r : Rd) (D : Nat → Nat → Int) (l : List Int) (st : Option (Int × List Int)) (k : Nat) : Option (Int × List Int) :=
  match st with
  | none => none
  | some (t, S) =>
    if l.getD k 0 = 0 then (if t + legN D l k ≤ r.close then some (t + legN D l k, S) else none)
    else if stopV r (l.getD k 0).toNat 3 < startN r D l k t then none
    else some (startN r D l k t + stopV r (l.getD k 0).toNat 4, S.set ((l.getD k 0).toNat - 1) (startN r D l k t))
def tmGoN (r : Rd) (D : Nat → Nat → Int) (l : List Int) (S : List Int) (q : Nat) : Option (Int × List Int) := (List.range q).foldl (tmStepN r D l) (some (0, S))
theorem tmGoN_succ (r : Rd) (D : Nat → Nat → Int) (l S : List Int) (q : Nat) : tmGoN r D l S (q + 1) = tmStepN r D l (tmGoN r D l S q) q := by simp [tmGoN, List.range_succ]
theorem tmGoN_none (r : Rd) (D : Nat → Nat → Int) (l S : List Int) (q k : Nat) (h : tmGoN r D l S q = none) : tmGoN r D l S (q + k) = none := by
  induction k with
  | zero => exact h
  | succ k ih => rw [← Nat.add_assoc, tmGoN_succ, ih]; rfl
def timeN (r : Rd) (D : Nat → Nat → Int) (l S : List Int) : Option (List Int) := (tmGoN r D l S l.length).map (·.2)
theorem timeN_late {r : Rd} {D : Nat → Nat → Int} {l S : List Int} {q : Nat} (hq : q < l.length) (h : tmGoN r D l S (q + 1) = none) : timeN r D l S = none := by
  have h2 := tmGoN_none r D l S (q + 1) (l.length - (q + 1)) h
  rw [show q + 1 + (l.length - (q + 1)) = l.length by omega] at h2
  unfold timeN; rw [h2]; rfl
/- on a route both are the same -/
theorem timeN_route (r : Rd) (D : Nat → Nat → Int) (l S : List Int) (hc : 0 ≤ r.close) (h2 : 2 ≤ l.length) (h0 : l.getD 0 0 = 0) (hl : l.getD (l.length - 1) 0 = 0) (hin : ∀ j, j + 2 < l.length → l.getD (j + 1) 0 ≠ 0) : timeN r D l S = timeS r D l S := by
  have step : ∀ st q, q + 2 < l.length → tmStepN r D l st (q + 1) = tmStep r D l st q := by
    intro st q hq
    match st with
    | none => rfl
    | some (t, S) =>
      have e : startN r D l (q + 1) t = startS r D l q t := by unfold startN startS legN; simp
      show (if l.getD (q + 1) 0 = 0 then _ else if _ < startN r D l (q + 1) t then none else some (startN r D l (q + 1) t + _, S.set _ (startN r D l (q + 1) t))) = (if l.getD (q + 1) 0 = 0 then _ else _)
      rw [if_neg (hin q hq), if_neg (hin q hq), e]
  have key : ∀ q, q + 1 < l.length → tmGoN r D l S (q + 1) = tmGo r D l S q := by
    intro q
    induction q with
    | zero =>
      intro _
      rw [tmGoN_succ]
      show (if l.getD 0 0 = 0 then (if (0 : Int) + legN D l 0 ≤ r.close then some ((0 : Int) + legN D l 0, S) else none) else _) = _
      rw [if_pos h0, show legN D l 0 = 0 from rfl, if_pos (by omega)]; rfl
    | succ q ih =>
      intro hq
      rw [tmGoN_succ, ih (by omega), step _ q (by omega), tmGo_succ]
  obtain ⟨m, hm⟩ : ∃ m, l.length = m + 2 := ⟨l.length - 2, by omega⟩
  have hl2 : l.getD (m + 1) 0 = 0 := by rw [show m + 1 = l.length - 1 by omega]; exact hl
  unfold timeN timeS
  rw [hm, tmGoN_succ, key m (by omega), show m + 2 - 1 = m + 1 by omega, tmGo_succ]
  match tmGo r D l S m with
  | none => rfl
  | some (t, S') =>
    have e1 : tmStepN r D l (some (t, S')) (m + 1) = if t + legD D l m ≤ r.close then some (t + legD D l m, S') else none := by
      show (if l.getD (m + 1) 0 = 0 then _ else _) = _
      rw [if_pos hl2]; simp [legN]
    have e2 : tmStep r D l (some (t, S')) m = some (t + legD D l m, S') := by
      show (if l.getD (m + 1) 0 = 0 then _ else _) = _
      rw [if_pos hl2]
    rw [e1, e2]
    by_cases h : t + legD D l m ≤ r.close <;> simp [h]

set_option maxRecDepth 100000 in
set_option maxHeartbeats 4000000 in
theorem inTime_any (p gi ci : Nat) (r : Rd) (D : Nat → Nat → Int) (l S0 : List Int) (vf vs : Value) (w0 w : World) (hB : Below w0.heap.size w0 w) (hp : p < w0.heap.size) (hok : RdOk r) (h2 : w0.cell? ⟨p, 2, none⟩ = some (.int .i64 r.close)) (h5 : w0.cell? ⟨p, 5, none⟩ = some vs) (hs : StR w0 vs r)
    (h7 : w0.cell? ⟨p, 7, none⟩ = some vf) (hq : SqR w0 vf (r.stops.length + 1) D) (hD : ∀ a b, a < r.stops.length + 1 → b < r.stops.length + 1 → -1 ≤ D a b ∧ D a b ≤ 40960000)
    (hgi : gi < w0.heap.size) (hrow : ∀ j (hj : j < l.length), w0.cell? ⟨gi, j, none⟩ = some (.int .i64 l[j])) (hll : l.length ≤ 1000) (hx : ∀ x ∈ l, 0 ≤ x ∧ x < r.stops.length + 1)
    (hS : S0.length = r.stops.length) (hown : w.ownsRow w0.heap.size 3 1 (.slice (some ⟨w0.heap.size, 0, none⟩) r.stops.length r.stops.length) r.stops.length (ints S0)) :
    Calls Tryz.prog 206 #[.pointer (some ⟨p, 0, none⟩), .slice (some ⟨gi, 0, none⟩) l.length ci, .slice (some ⟨w0.heap.size, 0, none⟩) r.stops.length r.stops.length] w fun e w' =>
      e = .returned (.bool (timeN r D l S0).isSome) ∧ Below w0.heap.size w0 w' ∧ ∃ S, S.length = r.stops.length ∧ (∀ S', timeN r D l S0 = some S' → S = S') ∧ w'.ownsRow w0.heap.size 3 1 (.slice (some ⟨w0.heap.size, 0, none⟩) r.stops.length r.stops.length) r.stops.length (ints S) := by
  obtain ⟨ast, cs, rfl, hst⟩ := hs
  obtain ⟨af, cf, rfl, hn, hsq⟩ := hq
  have hn7 := hok.nstops
  have HST := hid hst
  have HSQ := hid hsq
  have HROW := hid hrow
  have HX := hid hx
  have HOK := hid hok
  have HDD := hid hD
  have HO := hid hown
  have HB := hid hB
  clear hst hsq hrow hx hok hD hown hB
  go_enter Tryz.func206, Tryz.ntmps206
  go_wp2_with fail
  go_loopw [7, 8] (fun tv k wr => ∃ (q : Nat) (t : Int) (S : List Int), q ≤ l.length ∧ k = .int .i64 (q : Nat) ∧ tv = .int .i64 t ∧ (-(q : Int) ≤ t ∧ t ≤ (q : Int) * 41000000) ∧ S.length = r.stops.length ∧ Hid (tmGoN r D l S0 q = some (t, S)) ∧ Hid (wr.ownsRow w0.heap.size 3 1 (.slice (some ⟨w0.heap.size, 0, none⟩) r.stops.length r.stops.length) r.stops.length (ints S)) ∧ Hid (Below w0.heap.size w0 wr)) (fun _ k _ => l.length - (intOf k).toNat)
  case atStart => exact ⟨0, 0, S0, Nat.zero_le _, rfl, rfl, by omega, hS, rfl, HO, HB⟩
  case round =>
    clear HB HO
    obtain ⟨q, t, S, hq, rfl, rfl, ht, hSl, HG, HO, HB⟩ := hrel
    have hpw : p < wr.heap.size := Nat.lt_of_lt_of_le hp HB.out.size
    have hiw : gi < wr.heap.size := Nat.lt_of_lt_of_le hgi HB.out.size
    have hp2 : wr.cell? ⟨p, 2, none⟩ = _ := (HB.out.cell (by exact hp)).trans h2
    by_cases hql : q < l.length
    · obtain ⟨y, hy⟩ : ∃ y, y = l[q] := ⟨_, rfl⟩
      have hy1 := HX.out y (by rw [hy]; exact List.getElem_mem _)
      have y0 : wr.cell? ⟨gi, q, none⟩ = _ := (HB.out.cell (by exact hgi)).trans (HROW.out q (by omega))
      rw [← hy] at y0
      obtain ⟨yn, rfl⟩ : ∃ yn : Nat, y = yn := ⟨y.toNat, by omega⟩
      have hyg : l.getD q 0 = yn := by rw [List.getD_eq_getElem?_getD, List.getElem?_eq_getElem hql, Option.getD_some, ← hy]
      have HYG := hid hyg
      have HN : Hid (tmGoN r D l S0 (q + 1) = tmStepN r D l (some (t, S)) q) := by show _ = _; rw [tmGoN_succ, HG.out]
      have iq : (0 : Int) ≤ (q : Int) := by omega
      have jq : (q : Int) < (l.length : Int) := by omega
      have iy : (0 : Int) ≤ (yn : Int) := by omega
      have jy : (yn : Int) < (r.stops.length : Int) + 1 := by omega
      clear hy
      by_cases hq0 : q = 0
      · have HU : Hid (t + legN D l q = t) := by show _ = _; rw [hq0]; simp [legN]
        have q0 : ¬ (0 : Int) < (q : Int) := by omega
        have HOX := HO
        have HBX := HB
        obtain ⟨wx, hwx⟩ : ∃ wx, wx = wr := ⟨_, rfl⟩
        rw [← hwx] at HOX HBX
        have tb : -((q : Int) + 1) ≤ t ∧ t ≤ ((q : Int) + 1) * 41000000 - 20000 := by omega
        clear hyg hq0
        subst hwx
        clear HB HO hp2 hpw
        have hp2 : wx.cell? ⟨p, 2, none⟩ = _ := (HBX.out.cell (by exact hp)).trans h2
        have hpw : p < wx.heap.size := Nat.lt_of_lt_of_le hp HBX.out.size
        by_cases hz : yn = 0
        · have HNT : Hid (tmGoN r D l S0 (q + 1) = if t ≤ r.close then some (t, S) else none) := by
            show _ = _
            rw [HN.out]
            show (if l.getD q 0 = 0 then (if t + legN D l q ≤ r.close then some (t + legN D l q, S) else none) else _) = _
            rw [if_pos (by rw [HYG.out, hz]; rfl), HU.out]
          subst hz
          by_cases hcl : t ≤ r.close
          · have HNX : Hid (tmGoN r D l S0 (q + 1) = some (t, S)) := by show _ = _; rw [HNT.out, if_pos hcl]
            go_wp2_with go_in
            go_roundw
            case rel => exact ⟨q + 1, t, S, by omega, by go_num, rfl, by omega, hSl, HNX, by first | exact HOX | exact own_heap HOX.out rfl, by first | exact HBX | exact HBX.out.drew⟩
            case measure => simp [intOf]; omega
          · have HF : Hid (timeN r D l S0 = none) := timeN_late hql (by rw [HNT.out, if_neg hcl])
            go_wp2_with go_in
            go_ret
            refine ⟨ret_bool (by rw [HF.out]; simp), by first | exact HBX.out | exact HBX.out.drew, S, hSl, fun S' e => (by rw [HF.out] at e; cases e), HOX.out⟩
        · obtain ⟨m, rfl⟩ : ∃ m, yn = m + 1 := ⟨yn - 1, by omega⟩
          obtain ⟨sg, rfl, hsg, hsc⟩ := HST.out m (by omega)
          obtain ⟨b0, b1, b2, b3, b4, hab, hsk⟩ := HOK.out.stops _ (List.getElem_mem (show m < r.stops.length by omega))
          have hcl : ∀ j z, j < 5 → [b0, b1, b2, b3, b4][j]? = some z → wx.cell? ⟨sg, m * 5 + j, none⟩ = some (.int .i64 z) := fun j z hj hz => (HBX.out.cell (by exact hsg)).trans (hsc j z hj (by rw [hab]; exact hz))
          have s0 : wx.cell? ⟨sg, m * 5, none⟩ = some (.int .i64 b0) := hcl 0 b0 (by omega) rfl
          have s1 := hcl 1 b1 (by omega) rfl
          have s2 := hcl 2 b2 (by omega) rfl
          have s3 := hcl 3 b3 (by omega) rfl
          have s4 := hcl 4 b4 (by omega) rfl
          have hp5 : wx.cell? ⟨p, 5, none⟩ = _ := (HBX.out.cell (by exact hp)).trans h5
          have hsw : sg < wx.heap.size := Nat.lt_of_lt_of_le hsg HBX.out.size
          have hg' : r.stops.getD m [] = [b0, b1, b2, b3, b4] := by rw [List.getD_eq_getElem?_getD, List.getElem?_eq_getElem (show m < r.stops.length by omega), Option.getD_some, hab]
          have hV : ∀ j, stopV r (m + 1) j = [b0, b1, b2, b3, b4].getD j 0 := fun j => by unfold stopV; rw [Nat.add_sub_cancel, hg']
          have hbb : (0 ≤ b2 ∧ b2 ≤ 10000) ∧ (0 ≤ b3 ∧ b3 ≤ 10000) ∧ (0 ≤ b4 ∧ b4 ≤ 10000) := by
            simp only [stopOk, Bool.and_eq_true, fit_iff, decide_eq_true_eq] at hsk
            omega
          have hfz := HOX.out.frozenAt m
          have hol : wx.cell? ⟨w0.heap.size, m, none⟩ = some (.int .i64 (S.getD m 0)) := by
            rw [HOX.out.cellAt m (by omega)]
            simp [ints, List.getD_eq_getElem?_getD, List.getElem?_eq_getElem (show m < S.length by omega)]
          have htn : (l.getD q 0).toNat = m + 1 := by rw [HYG.out]; omega
          have HSS : Hid (startN r D l q t = if t < b2 then b2 else t) := by show _ = _; unfold startN; rw [htn, HU.out, hV]; rfl
          have HNT : Hid (tmGoN r D l S0 (q + 1) = if b3 < startN r D l q t then none else some (startN r D l q t + b4, S.set m (startN r D l q t))) := by
            show _ = _
            rw [HN.out]
            show (if l.getD q 0 = 0 then _ else if stopV r (l.getD q 0).toNat 3 < startN r D l q t then none else some (startN r D l q t + stopV r (l.getD q 0).toNat 4, S.set ((l.getD q 0).toNat - 1) (startN r D l q t))) = _
            rw [if_neg (by rw [HYG.out]; omega), htn, hV, hV]; rfl
          have h0w : w0.heap.size < wx.heap.size := own_cells_int HOX.out
          clear hsc hab hsk hV hg' hcl htn HN hz
          by_cases hearly : t < b2
          · have HSV : Hid (startN r D l q t = b2) := by show _ = _; rw [HSS.out, if_pos hearly]
            by_cases hlate : b3 < b2
            · have HF : Hid (timeN r D l S0 = none) := timeN_late hql (by rw [HNT.out, HSV.out, if_pos hlate])
              go_wp2_with go_in
              all_goals
                go_ret
                refine ⟨ret_bool (by rw [HF.out]; simp), HBX.out.alloc HBX.out.size _, S, hSl, fun S' e => (by rw [HF.out] at e; cases e), HOX.out.alloc _⟩
            · have HNX : Hid (tmGoN r D l S0 (q + 1) = some (b2 + b4, S.set m (b2))) := by show _ = _; rw [HNT.out, HSV.out, if_neg hlate]
              have HST2 := hid (HOX.out.stored m (.int .i64 (b2))).1
              have HBS : Hid (Below w0.heap.size w0 (wx.setCell ⟨w0.heap.size, m, none⟩ (.int .i64 (b2)))) := HBX.out.setCell (Nat.le_refl _) _
              have HIS : Hid ((ints S).set m (.int .i64 (b2)) = ints (S.set m (b2))) := by show _ = _; simp [ints, List.map_set]
              go_wp2_with go_in
              go_roundw
              case rel =>
                refine ⟨q + 1, b2 + b4, S.set m (b2), by omega, by go_num, rfl, by omega, by simp [hSl], HNX, ?_, HBS.out.alloc HBS.out.size _⟩
                show World.ownsRow _ _ _ _ _ _ _
                rw [← HIS.out]; exact HST2.out.alloc _
              case measure => simp [intOf]; omega
          · have HSV : Hid (startN r D l q t = t) := by show _ = _; rw [HSS.out, if_neg hearly]
            by_cases hlate : b3 < t
            · have HF : Hid (timeN r D l S0 = none) := timeN_late hql (by rw [HNT.out, HSV.out, if_pos hlate])
              go_wp2_with go_in
              all_goals
                go_ret
                refine ⟨ret_bool (by rw [HF.out]; simp), HBX.out.alloc HBX.out.size _, S, hSl, fun S' e => (by rw [HF.out] at e; cases e), HOX.out.alloc _⟩
            · have HNX : Hid (tmGoN r D l S0 (q + 1) = some (t + b4, S.set m (t))) := by show _ = _; rw [HNT.out, HSV.out, if_neg hlate]
              have HST2 := hid (HOX.out.stored m (.int .i64 (t))).1
              have HBS : Hid (Below w0.heap.size w0 (wx.setCell ⟨w0.heap.size, m, none⟩ (.int .i64 (t)))) := HBX.out.setCell (Nat.le_refl _) _
              have HIS : Hid ((ints S).set m (.int .i64 (t)) = ints (S.set m (t))) := by show _ = _; simp [ints, List.map_set]
              go_wp2_with go_in
              go_roundw
              case rel =>
                refine ⟨q + 1, t + b4, S.set m (t), by omega, by go_num, rfl, by omega, by simp [hSl], HNX, ?_, HBS.out.alloc HBS.out.size _⟩
                show World.ownsRow _ _ _ _ _ _ _
                rw [← HIS.out]; exact HST2.out.alloc _
              case measure => simp [intOf]; omega
      · obtain ⟨k, rfl⟩ : ∃ k, q = k + 1 := ⟨q - 1, by omega⟩
        obtain ⟨x, hx⟩ : ∃ x, x = l[k] := ⟨_, rfl⟩
        have hx1 := HX.out x (by rw [hx]; exact List.getElem_mem _)
        have x0 : wr.cell? ⟨gi, k, none⟩ = _ := (HB.out.cell (by exact hgi)).trans (HROW.out k (by omega))
        rw [← hx] at x0
        obtain ⟨xn, rfl⟩ : ∃ xn : Nat, x = xn := ⟨x.toNat, by omega⟩
        obtain ⟨fg, fgi, fci, rfl, hfg, hfc, hfgi, hfr⟩ := HSQ.out xn (by omega)
        have hd : wr.cell? ⟨fgi, yn, none⟩ = _ := (HB.out.cell (by exact hfgi)).trans (hfr yn (by omega))
        have hfw : wr.cell? ⟨fg, xn, none⟩ = _ := (HB.out.cell (by exact hfg)).trans hfc
        have hp7 : wr.cell? ⟨p, 7, none⟩ = _ := (HB.out.cell (by exact hp)).trans h7
        have hgf : fg < wr.heap.size := Nat.lt_of_lt_of_le hfg HB.out.size
        have hgif : fgi < wr.heap.size := Nat.lt_of_lt_of_le hfgi HB.out.size
        have hxg : l.getD k 0 = xn := by rw [List.getD_eq_getElem?_getD, List.getElem?_eq_getElem (by omega), Option.getD_some, ← hx]
        have hdb := HDD.out xn yn (by omega) (by omega)
        have HU : Hid (t + legN D l (k + 1) = t + D xn yn) := by show _ = _; unfold legN legD; simp only [Nat.add_sub_cancel]; rw [if_neg (by omega), hyg, hxg]; simp
        generalize hdd : D xn yn = d at *
        have ik : (0 : Int) ≤ (k : Int) := by omega
        have jk : (k : Int) < (l.length : Int) := by omega
        have ix : (0 : Int) ≤ (xn : Int) := by omega
        have jx : (xn : Int) < (r.stops.length : Int) + 1 := by omega
        have hww : IntKind.i64.wrap ((k : Int) + 1 - 1) = k := by rw [show (k : Int) + 1 - 1 = k by omega]; exact i64_fits _ (by omega)
        have hww2 : IntKind.i64.wrap (k : Int) = k := i64_fits _ (by omega)
        have hws : IntKind.i64.wrap (t + d) = t + d := i64_fits _ (by omega)
        have tb : -((k : Int) + 1 + 1) ≤ t + d ∧ t + d ≤ ((k : Int) + 1 + 1) * 41000000 - 20000 := by omega
        clear hfr hx hdd hxg hyg
        go_wp2_with fail
        go_region_held3 (fun w' => w'.cell? ⟨p, 7, none⟩ = some (.slice (some ⟨fg, 0, none⟩) (r.stops.length + 1) cf) ∧ w'.cell? ⟨gi, k, none⟩ = some (.int .i64 xn) ∧ w'.cell? ⟨fg, xn, none⟩ = some (.slice (some ⟨fgi, 0, none⟩) (r.stops.length + 1) fci) ∧ w'.cell? ⟨fgi, yn, none⟩ = some (.int .i64 d)) (go_keep) (fail)
        obtain ⟨wx, hwx⟩ : ∃ wx, wx = wr.drew := ⟨_, rfl⟩
        have HBX : Hid (Below w0.heap.size w0 wx) := by show Below _ _ _; rw [hwx]; exact HB.out.drew
        have HOX : Hid (wx.ownsRow w0.heap.size 3 1 (.slice (some ⟨w0.heap.size, 0, none⟩) r.stops.length r.stops.length) r.stops.length (ints S)) := by
          show World.ownsRow _ _ _ _ _ _ _
          rw [hwx]; exact own_heap HO.out rfl
        rw [← hwx]
        clear hwx HB HO x0 y0 hd hfw hp7 hgf hgif hp2 hpw hiw hww hww2 hws
        rename_i hHeld
        clear hHeld
        have hp2 : wx.cell? ⟨p, 2, none⟩ = _ := (HBX.out.cell (by exact hp)).trans h2
        have hpw : p < wx.heap.size := Nat.lt_of_lt_of_le hp HBX.out.size
        by_cases hz : yn = 0
        · have HNT : Hid (tmGoN r D l S0 (k + 1 + 1) = if (t + d) ≤ r.close then some ((t + d), S) else none) := by
            show _ = _
            rw [HN.out]
            show (if l.getD (k + 1) 0 = 0 then (if t + legN D l (k + 1) ≤ r.close then some (t + legN D l (k + 1), S) else none) else _) = _
            rw [if_pos (by rw [HYG.out, hz]; rfl), HU.out]
          subst hz
          by_cases hcl : (t + d) ≤ r.close
          · have HNX : Hid (tmGoN r D l S0 (k + 1 + 1) = some ((t + d), S)) := by show _ = _; rw [HNT.out, if_pos hcl]
            go_wp2_with go_in
            go_roundw
            case rel => exact ⟨k + 1 + 1, (t + d), S, by omega, by go_num, rfl, by omega, hSl, HNX, by first | exact HOX | exact own_heap HOX.out rfl, by first | exact HBX | exact HBX.out.drew⟩
            case measure => simp [intOf]; omega
          · have HF : Hid (timeN r D l S0 = none) := timeN_late hql (by rw [HNT.out, if_neg hcl])
            go_wp2_with go_in
            go_ret
            refine ⟨ret_bool (by rw [HF.out]; simp), by first | exact HBX.out | exact HBX.out.drew, S, hSl, fun S' e => (by rw [HF.out] at e; cases e), HOX.out⟩
        · obtain ⟨m, rfl⟩ : ∃ m, yn = m + 1 := ⟨yn - 1, by omega⟩
          obtain ⟨sg, rfl, hsg, hsc⟩ := HST.out m (by omega)
          obtain ⟨b0, b1, b2, b3, b4, hab, hsk⟩ := HOK.out.stops _ (List.getElem_mem (show m < r.stops.length by omega))
          have hcl : ∀ j z, j < 5 → [b0, b1, b2, b3, b4][j]? = some z → wx.cell? ⟨sg, m * 5 + j, none⟩ = some (.int .i64 z) := fun j z hj hz => (HBX.out.cell (by exact hsg)).trans (hsc j z hj (by rw [hab]; exact hz))
          have s0 : wx.cell? ⟨sg, m * 5, none⟩ = some (.int .i64 b0) := hcl 0 b0 (by omega) rfl
          have s1 := hcl 1 b1 (by omega) rfl
          have s2 := hcl 2 b2 (by omega) rfl
          have s3 := hcl 3 b3 (by omega) rfl
          have s4 := hcl 4 b4 (by omega) rfl
          have hp5 : wx.cell? ⟨p, 5, none⟩ = _ := (HBX.out.cell (by exact hp)).trans h5
          have hsw : sg < wx.heap.size := Nat.lt_of_lt_of_le hsg HBX.out.size
          have hg' : r.stops.getD m [] = [b0, b1, b2, b3, b4] := by rw [List.getD_eq_getElem?_getD, List.getElem?_eq_getElem (show m < r.stops.length by omega), Option.getD_some, hab]
          have hV : ∀ j, stopV r (m + 1) j = [b0, b1, b2, b3, b4].getD j 0 := fun j => by unfold stopV; rw [Nat.add_sub_cancel, hg']
          have hbb : (0 ≤ b2 ∧ b2 ≤ 10000) ∧ (0 ≤ b3 ∧ b3 ≤ 10000) ∧ (0 ≤ b4 ∧ b4 ≤ 10000) := by
            simp only [stopOk, Bool.and_eq_true, fit_iff, decide_eq_true_eq] at hsk
            omega
          have hfz := HOX.out.frozenAt m
          have hol : wx.cell? ⟨w0.heap.size, m, none⟩ = some (.int .i64 (S.getD m 0)) := by
            rw [HOX.out.cellAt m (by omega)]
            simp [ints, List.getD_eq_getElem?_getD, List.getElem?_eq_getElem (show m < S.length by omega)]
          have htn : (l.getD (k + 1) 0).toNat = m + 1 := by rw [HYG.out]; omega
          have HSS : Hid (startN r D l (k + 1) t = if (t + d) < b2 then b2 else (t + d)) := by show _ = _; unfold startN; rw [htn, HU.out, hV]; rfl
          have HNT : Hid (tmGoN r D l S0 (k + 1 + 1) = if b3 < startN r D l (k + 1) t then none else some (startN r D l (k + 1) t + b4, S.set m (startN r D l (k + 1) t))) := by
            show _ = _
            rw [HN.out]
            show (if l.getD (k + 1) 0 = 0 then _ else if stopV r (l.getD (k + 1) 0).toNat 3 < startN r D l (k + 1) t then none else some (startN r D l (k + 1) t + stopV r (l.getD (k + 1) 0).toNat 4, S.set ((l.getD (k + 1) 0).toNat - 1) (startN r D l (k + 1) t))) = _
            rw [if_neg (by rw [HYG.out]; omega), htn, hV, hV]; rfl
          have h0w : w0.heap.size < wx.heap.size := own_cells_int HOX.out
          clear hsc hab hsk hV hg' hcl htn HN hz
          by_cases hearly : (t + d) < b2
          · have HSV : Hid (startN r D l (k + 1) t = b2) := by show _ = _; rw [HSS.out, if_pos hearly]
            by_cases hlate : b3 < b2
            · have HF : Hid (timeN r D l S0 = none) := timeN_late hql (by rw [HNT.out, HSV.out, if_pos hlate])
              go_wp2_with go_in
              all_goals
                go_ret
                refine ⟨ret_bool (by rw [HF.out]; simp), HBX.out.alloc HBX.out.size _, S, hSl, fun S' e => (by rw [HF.out] at e; cases e), HOX.out.alloc _⟩
            · have HNX : Hid (tmGoN r D l S0 (k + 1 + 1) = some (b2 + b4, S.set m (b2))) := by show _ = _; rw [HNT.out, HSV.out, if_neg hlate]
              have HST2 := hid (HOX.out.stored m (.int .i64 (b2))).1
              have HBS : Hid (Below w0.heap.size w0 (wx.setCell ⟨w0.heap.size, m, none⟩ (.int .i64 (b2)))) := HBX.out.setCell (Nat.le_refl _) _
              have HIS : Hid ((ints S).set m (.int .i64 (b2)) = ints (S.set m (b2))) := by show _ = _; simp [ints, List.map_set]
              go_wp2_with go_in
              go_roundw
              case rel =>
                refine ⟨k + 1 + 1, b2 + b4, S.set m (b2), by omega, by go_num, rfl, by omega, by simp [hSl], HNX, ?_, HBS.out.alloc HBS.out.size _⟩
                show World.ownsRow _ _ _ _ _ _ _
                rw [← HIS.out]; exact HST2.out.alloc _
              case measure => simp [intOf]; omega
          · have HSV : Hid (startN r D l (k + 1) t = (t + d)) := by show _ = _; rw [HSS.out, if_neg hearly]
            by_cases hlate : b3 < (t + d)
            · have HF : Hid (timeN r D l S0 = none) := timeN_late hql (by rw [HNT.out, HSV.out, if_pos hlate])
              go_wp2_with go_in
              all_goals
                go_ret
                refine ⟨ret_bool (by rw [HF.out]; simp), HBX.out.alloc HBX.out.size _, S, hSl, fun S' e => (by rw [HF.out] at e; cases e), HOX.out.alloc _⟩
            · have HNX : Hid (tmGoN r D l S0 (k + 1 + 1) = some ((t + d) + b4, S.set m ((t + d)))) := by show _ = _; rw [HNT.out, HSV.out, if_neg hlate]
              have HST2 := hid (HOX.out.stored m (.int .i64 ((t + d)))).1
              have HBS : Hid (Below w0.heap.size w0 (wx.setCell ⟨w0.heap.size, m, none⟩ (.int .i64 ((t + d))))) := HBX.out.setCell (Nat.le_refl _) _
              have HIS : Hid ((ints S).set m (.int .i64 ((t + d))) = ints (S.set m ((t + d)))) := by show _ = _; simp [ints, List.map_set]
              go_wp2_with go_in
              go_roundw
              case rel =>
                refine ⟨k + 1 + 1, (t + d) + b4, S.set m ((t + d)), by omega, by go_num, rfl, by omega, by simp [hSl], HNX, ?_, HBS.out.alloc HBS.out.size _⟩
                show World.ownsRow _ _ _ _ _ _ _
                rw [← HIS.out]; exact HST2.out.alloc _
              case measure => simp [intOf]; omega
    · have hqe : q = l.length := by omega
      have HF : Hid (timeN r D l S0 = some S) := by show _ = _; unfold timeN; rw [← hqe, HG.out]; rfl
      clear hqe
      go_wp2_with go_in
      go_ret
      refine ⟨ret_bool (by rw [HF.out]; simp), by first | exact HB.out | exact HB.out.drew, S, hSl, fun S' e => (by rw [HF.out] at e; cases e; rfl), HO.out⟩
end Go.Proofs.YtebinaopncclgabGreatDoor
namespace Go.Proofs.YtebinaopncclgabGreatDoor
open Go.RowKit Go.IntWalk

def timesS (r : Rd) (D : Nat → Nat → Int) (L : List (List Int)) (S : List Int) : Option (List Int) := L.foldl (fun st l => st.bind (timeS r D l)) (some S)
def timesN (r : Rd) (D : Nat → Nat → Int) (L : List (List Int)) (S : List Int) : Option (List Int) := L.foldl (fun st l => st.bind (timeN r D l)) (some S)
theorem timesN_same {r : Rd} {D : Nat → Nat → Int} {L : List (List Int)} (S : List Int) (h : ∀ l ∈ L, ∀ S, timeN r D l S = timeS r D l S) : timesN r D L S = timesS r D L S := by
  unfold timesN timesS
  suffices key : ∀ (L : List (List Int)) (st : Option (List Int)), (∀ l ∈ L, ∀ S, timeN r D l S = timeS r D l S) → L.foldl (fun st l => st.bind (timeN r D l)) st = L.foldl (fun st l => st.bind (timeS r D l)) st from key L _ h
  intro L
  induction L with
  | nil => intro st _; rfl
  | cons l L ih =>
    intro st h
    rw [List.foldl_cons, List.foldl_cons, ih _ (fun l hl => h l (by simp [hl])), show timeN r D l = timeS r D l from funext (h l (by simp))]
theorem timesS_snoc (r : Rd) (D : Nat → Nat → Int) (L : List (List Int)) (l S : List Int) : timesS r D (L ++ [l]) S = (timesS r D L S).bind (timeS r D l) := by simp [timesS]
theorem timesS_none (r : Rd) (D : Nat → Nat → Int) (L M : List (List Int)) (S : List Int) (h : timesS r D L S = none) : timesS r D (L ++ M) S = none := by
  have key : ∀ M : List (List Int), M.foldl (fun st l => st.bind (timeS r D l)) none = none := by
    intro M; induction M with
    | nil => rfl
    | cons x M ih => simpa using ih
  unfold timesS at h ⊢
  rw [List.foldl_append, h, key]
theorem timesN_snoc (r : Rd) (D : Nat → Nat → Int) (L : List (List Int)) (l S : List Int) : timesN r D (L ++ [l]) S = (timesN r D L S).bind (timeN r D l) := by simp [timesN]
theorem timesN_none (r : Rd) (D : Nat → Nat → Int) (L M : List (List Int)) (S : List Int) (h : timesN r D L S = none) : timesN r D (L ++ M) S = none := by
  have key : ∀ M : List (List Int), M.foldl (fun st l => st.bind (timeN r D l)) none = none := by
    intro M; induction M with
    | nil => rfl
    | cons x M ih => simpa using ih
  unfold timesN at h ⊢
  rw [List.foldl_append, h, key]

set_option maxRecDepth 100000 in
set_option maxHeartbeats 4000000 in
theorem allInTime_any (p : Nat) (r : Rd) (D : Nat → Nat → Int) (L : List (List Int)) (S0 : List Int) (vf vs v : Value) (w0 w : World) (hB : Below w0.heap.size w0 w) (hp : p < w0.heap.size) (hok : RdOk r) (h2 : w0.cell? ⟨p, 2, none⟩ = some (.int .i64 r.close)) (h5 : w0.cell? ⟨p, 5, none⟩ = some vs) (hs : StR w0 vs r)
    (h7 : w0.cell? ⟨p, 7, none⟩ = some vf) (hq : SqR w0 vf (r.stops.length + 1) D) (hD : ∀ a b, a < r.stops.length + 1 → b < r.stops.length + 1 → -1 ≤ D a b ∧ D a b ≤ 40960000)
    (hr : RtR w0 v L) (hx : ∀ l ∈ L, l.length ≤ 1000 ∧ ∀ x ∈ l, 0 ≤ x ∧ x < r.stops.length + 1)
    (hS : S0.length = r.stops.length) (hown : w.ownsRow w0.heap.size 3 1 (.slice (some ⟨w0.heap.size, 0, none⟩) r.stops.length r.stops.length) r.stops.length (ints S0)) :
    Calls Tryz.prog 170 #[.pointer (some ⟨p, 0, none⟩), v, .slice (some ⟨w0.heap.size, 0, none⟩) r.stops.length r.stops.length] w fun e w' =>
      e = .returned (.bool (timesN r D L S0).isSome) ∧ Below w0.heap.size w0 w' ∧ ∃ S, S.length = r.stops.length ∧ (∀ S', timesN r D L S0 = some S' → S = S') ∧ w'.ownsRow w0.heap.size 3 1 (.slice (some ⟨w0.heap.size, 0, none⟩) r.stops.length r.stops.length) r.stops.length (ints S) := by
  obtain ⟨ao, co, rfl, hL, hrt⟩ := hr
  have HIT : Hid (∀ (gi ci : Nat) (l S : List Int) (W : World), Below w0.heap.size w0 W → gi < w0.heap.size → (∀ j (hj : j < l.length), w0.cell? ⟨gi, j, none⟩ = some (.int .i64 l[j])) → l ∈ L → S.length = r.stops.length → W.ownsRow w0.heap.size 3 1 (.slice (some ⟨w0.heap.size, 0, none⟩) r.stops.length r.stops.length) r.stops.length (ints S) →
      Calls Tryz.prog 206 #[.pointer (some ⟨p, 0, none⟩), .slice (some ⟨gi, 0, none⟩) l.length ci, .slice (some ⟨w0.heap.size, 0, none⟩) r.stops.length r.stops.length] W fun e w' =>
        e = .returned (.bool (timeN r D l S).isSome) ∧ Below w0.heap.size w0 w' ∧ ∃ S1, S1.length = r.stops.length ∧ (∀ S', timeN r D l S = some S' → S1 = S') ∧ w'.ownsRow w0.heap.size 3 1 (.slice (some ⟨w0.heap.size, 0, none⟩) r.stops.length r.stops.length) r.stops.length (ints S1)) :=
    fun gi ci l S W hW hg hrow hm hl ho => inTime_any p gi ci r D l S vf vs w0 W hW hp hok h2 h5 hs h7 hq hD hg hrow (hx l hm).1 (hx l hm).2 hl ho
  have hn7 := hok.nstops
  have HRT := hid hrt
  have HO := hid hown
  have HB := hid hB
  clear hrt hx hok hD hown hB hs hq h2 h5 h7
  go_enter Tryz.func170, Tryz.ntmps170
  go_wp2_with fail
  go_loopw [7] (fun i wr => ∃ (a : Nat) (S : List Int), a ≤ L.length ∧ i = .int .i64 a ∧ S.length = r.stops.length ∧ Hid (timesN r D (L.take a) S0 = some S) ∧ Hid (wr.ownsRow w0.heap.size 3 1 (.slice (some ⟨w0.heap.size, 0, none⟩) r.stops.length r.stops.length) r.stops.length (ints S)) ∧ Hid (Below w0.heap.size w0 wr)) (fun i _ => L.length - (intOf i).toNat)
  case atStart => exact ⟨0, S0, Nat.zero_le _, rfl, hS, rfl, HO, HB⟩
  case round =>
    clear HB HO
    obtain ⟨a, S, ha, rfl, hSl, HA, HO, HB⟩ := hrel
    by_cases hlt : a < L.length
    · obtain ⟨g, gi, ci, rfl, hg, hc, hgi, hrow⟩ := HRT.out a hlt
      obtain ⟨l, hl⟩ : ∃ l, l = L[a] := ⟨_, rfl⟩
      have HC := HIT.out gi ci l S wr HB.out hgi (by intro j hj; subst hl; exact hrow j hj) (by rw [hl]; exact List.getElem_mem _) hSl HO.out
      have HCC := hid HC
      rw [← hl] at hc
      have hc : wr.cell? ⟨g, a, none⟩ = _ := (HB.out.cell (by exact hg)).trans hc
      have hgw : g < wr.heap.size := Nat.lt_of_lt_of_le hg HB.out.size
      have HT : Hid (timesN r D (L.take (a + 1)) S0 = timeN r D l S) := by
        show _ = _
        rw [List.take_succ_eq_append_getElem hlt, timesN_snoc, HA.out, ← hl]; rfl
      clear HC hrow hl
      cases hv : timeN r D l S with
      | none =>
        have HF : Hid (timesN r D L S0 = none) := by
          have h := timesN_none r D (L.take (a + 1)) (L.drop (a + 1)) S0 (by rw [HT.out, hv])
          rw [List.take_append_drop] at h; exact h
        rw [hv] at HCC
        go_wp2_with (go_at_call 206; refine HCC.out.mono ?_; rintro e1 w1 ⟨rfl, hb1, S1, hs1, _, ho1⟩)
        go_ret
        exact ⟨ret_bool (by rw [HF.out]; rfl), hb1, S1, hs1, fun S' e => (by rw [HF.out] at e; cases e), ho1⟩
      | some S2 =>
        have HN : Hid (timesN r D (L.take (a + 1)) S0 = some S2) := by show _ = _; rw [HT.out, hv]
        rw [hv] at HCC
        go_wp2_with (go_at_call 206; refine HCC.out.mono ?_; rintro e1 w1 ⟨rfl, hb1, S1, hs1, heq, ho1⟩)
        go_roundw
        case rel => exact ⟨a + 1, S1, by omega, by go_num, hs1, by show _ = _; rw [HN.out, heq S2 rfl], ho1, hb1⟩
        case measure => simp [intOf]; omega
    · have HF : Hid (timesN r D L S0 = some S) := by have := HA.out; rw [List.take_of_length_le (by omega)] at this; exact this
      go_wp2
      go_ret
      exact ⟨ret_bool (by rw [HF.out]; rfl), HB.out, S, hSl, fun S' e => (by rw [HF.out] at e; cases e; rfl), HO.out⟩
end Go.Proofs.YtebinaopncclgabGreatDoor
namespace Go.Proofs.YtebinaopncclgabGreatDoor

theorem snoc_ind {P : List UInt8 → Prop} (h0 : P []) (h1 : ∀ l c, P l → P (l ++ [c])) (l : List UInt8) : P l := by
  have key : ∀ n (l : List UInt8), l.length = n → P l := by
    intro n
    induction n with
    | zero => intro l h; rw [List.length_eq_zero_iff.1 h]; exact h0
    | succ n ih =>
      intro l h
      have hne : l ≠ [] := fun e => by rw [e] at h; simp at h
      rw [← List.dropLast_concat_getLast hne]
      exact h1 _ _ (ih _ (by simp [h]))
  exact key _ l rfl
/- how many stops stand in a text, all in all -/
def cntAll (l : List UInt8) : Nat → Nat
  | 0 => 0
  | n + 1 => cntAll l n + cntS l (n + 1)
theorem cntAll_slash {l : List UInt8} {c : UInt8} (hc : c = 47) (n : Nat) : cntAll (l ++ [c]) n = cntAll l n := by
  induction n with
  | zero => rfl
  | succ n ih => unfold cntAll; rw [ih, cnt_snoc, if_neg (by rw [hc]; show ¬ (47 = 48 + (n + 1)); omega)]; omega
theorem cntAll_other {l : List UInt8} {c : UInt8} (n : Nat) : cntAll l n ≤ cntAll (l ++ [c]) n := by
  induction n with
  | zero => exact Nat.le_refl _
  | succ n ih => unfold cntAll; rw [cnt_snoc]; omega
theorem cntAll_stop {l : List UInt8} {c : UInt8} (n : Nat) (h1 : 49 ≤ c.toNat) (h2 : c.toNat - 48 ≤ n) : cntAll l n + 1 ≤ cntAll (l ++ [c]) n := by
  induction n with
  | zero => omega
  | succ n ih =>
    unfold cntAll
    rw [cnt_snoc]
    by_cases h : c.toNat = 48 + (n + 1)
    · rw [if_pos h]; have := cntAll_other (l := l) (c := c) n; omega
    · rw [if_neg h]; have := ih (by omega); omega
theorem plan_size (n : Nat) (l : List UInt8) : ∀ m, plGo n l = some m → l.length + m ≤ 2 * cntAll l n := by
  refine snoc_ind (P := fun l => ∀ m, plGo n l = some m → l.length + m ≤ 2 * cntAll l n) ?_ ?_ l
  · intro m h
    have : m = 0 := by simpa [plGo] using h.symm
    subst this; simp
  · intro l c ih m h
    rw [plGo_snoc] at h
    cases hp : plGo n l with
    | none => rw [hp] at h; cases h
    | some k =>
      rw [hp] at h
      have hk := ih k hp
      unfold plStep at h
      by_cases hc : c = 47
      · simp only [hc, if_true] at h
        by_cases hz : k = 0
        · rw [if_pos hz] at h; cases h
        · rw [if_neg hz] at h
          cases h
          rw [cntAll_slash hc, List.length_append]; simp; omega
      · simp only [hc, if_false] at h
        by_cases hb : c.toNat < 49 ∨ n < c.toNat - 48
        · rw [if_pos hb] at h; cases h
        · rw [if_neg hb] at h
          cases h
          have := cntAll_stop (l := l) (c := c) n (by omega) (by omega)
          rw [List.length_append]; simp; omega
theorem cntAll_le {l : List UInt8} {n : Nat} (h : ∀ d, d < n → cntS l (d + 1) ≤ 1) : cntAll l n ≤ n := by
  induction n with
  | zero => exact Nat.le_refl _
  | succ n ih => unfold cntAll; have := ih (fun d hd => h d (by omega)); have := h n (by omega); omega
theorem fine_size {n : Nat} {l : List UInt8} (h : textFaultS n l = 0) : l.length ≤ 2 * n ∧ isPlanS n l = true ∧ ∀ d, d < n → cntS l (d + 1) = 1 := by
  unfold textFaultS at h
  by_cases hp : isPlanS n l = false
  · rw [if_pos hp] at h; cases h
  rw [if_neg hp] at h
  by_cases h6 : (List.range n).any (fun d => decide (1 < cntS l (d + 1))) = true
  · rw [if_pos h6] at h; cases h
  rw [if_neg h6] at h
  by_cases h7 : (List.range n).any (fun d => decide (cntS l (d + 1) = 0)) = true
  · rw [if_pos h7] at h; cases h
  have hle : ∀ d, d < n → cntS l (d + 1) ≤ 1 := fun d hd => by
    by_cases hh : 1 < cntS l (d + 1)
    · exact absurd (List.any_eq_true.2 ⟨d, by simpa using hd, by simpa using hh⟩) h6
    · omega
  have hpt : isPlanS n l = true := by simpa using hp
  refine ⟨?_, hpt, fun d hd => ?_⟩
  · unfold isPlanS at hpt
    cases hg : plGo n l with
    | none => rw [hg] at hpt; cases hpt
    | some m => have := plan_size n l m hg; have := cntAll_le hle; omega
  · have h1 := hle d hd
    by_cases h0 : cntS l (d + 1) = 0
    · exact absurd (List.any_eq_true.2 ⟨d, by simpa using hd, by simpa using h0⟩) h7
    · omega
end Go.Proofs.YtebinaopncclgabGreatDoor
namespace Go.Proofs.YtebinaopncclgabGreatDoor

def Shape (n k : Nat) (r : List Int) : Prop := ∃ mid : List Int, r = 0 :: (mid ++ [0]) ∧ mid.length ≤ k ∧ ∀ x ∈ mid, 1 ≤ x ∧ x ≤ n
theorem Shape.mono {n k k' : Nat} {r : List Int} (h : Shape n k r) (hk : k ≤ k') : Shape n k' r := by
  obtain ⟨mid, h1, h2, h3⟩ := h; exact ⟨mid, h1, by omega, h3⟩
theorem rtGo_shape (n : Nat) (l : List UInt8) : (∀ c ∈ l, c = 47 ∨ (49 ≤ c.toNat ∧ c.toNat - 48 ≤ n)) → (∀ r ∈ (rtGo l).1, Shape n l.length r) ∧ ∃ mid : List Int, (rtGo l).2 = 0 :: mid ∧ mid.length ≤ l.length ∧ ∀ x ∈ mid, 1 ≤ x ∧ x ≤ (n : Int) := by
  refine snoc_ind (P := fun l => (∀ c ∈ l, c = 47 ∨ (49 ≤ c.toNat ∧ c.toNat - 48 ≤ n)) → (∀ r ∈ (rtGo l).1, Shape n l.length r) ∧ ∃ mid : List Int, (rtGo l).2 = 0 :: mid ∧ mid.length ≤ l.length ∧ ∀ x ∈ mid, 1 ≤ x ∧ x ≤ (n : Int)) ?_ ?_ l
  · intro _; exact ⟨by simp [rtGo], [], rfl, Nat.le_refl _, by simp⟩
  · intro l c ih hb
    obtain ⟨h1, mid, h2, h3, h4⟩ := ih (fun x hx => hb x (by simp [hx]))
    rw [rtGo_snoc]
    unfold rtStep
    by_cases hc : c = 47
    · rw [if_pos hc]
      refine ⟨fun r hr => ?_, [], rfl, by simp, by simp⟩
      rcases List.mem_append.1 hr with h | h
      · exact (h1 r h).mono (by simp)
      · have : r = (rtGo l).2 ++ [0] := by simpa using h
        exact ⟨mid, by rw [this, h2]; rfl, by simp; omega, h4⟩
    · rw [if_neg hc]
      have hcb : 49 ≤ c.toNat ∧ c.toNat - 48 ≤ n := by
        rcases hb c (by simp) with h | h
        · exact absurd h hc
        · exact h
      refine ⟨fun r hr => (h1 r hr).mono (by simp), mid ++ [(c.toNat : Int) - 48], by show (rtGo l).2 ++ _ = _; rw [h2]; rfl, by simp; omega, fun x hx => ?_⟩
      rcases List.mem_append.1 hx with h | h
      · exact h4 x h
      · have : x = (c.toNat : Int) - 48 := by simpa using h
        omega
theorem plan_bytes {n : Nat} {l : List UInt8} (h : isPlanS n l = true) : ∀ c ∈ l, c = 47 ∨ (49 ≤ c.toNat ∧ c.toNat - 48 ≤ n) := by
  intro c hc
  obtain ⟨k, hk, rfl⟩ := List.mem_iff_getElem.1 hc
  exact plan_byte h hk
theorem routes_shape {n : Nat} {l : List UInt8} (h : isPlanS n l = true) : ∀ r ∈ routesS l, Shape n l.length r := by
  obtain ⟨h1, mid, h2, h3, h4⟩ := rtGo_shape n l (plan_bytes h)
  intro r hr
  unfold routesS at hr
  by_cases hn : l = []
  · rw [if_pos hn] at hr; simp at hr
  · rw [if_neg hn] at hr
    rcases List.mem_append.1 hr with h | h
    · exact h1 r h
    · have : r = (rtGo l).2 ++ [0] := by simpa using h
      exact ⟨mid, by rw [this, h2]; rfl, h3, h4⟩
theorem Shape.sites {n k : Nat} {r : List Int} (h : Shape n k r) : r.length ≤ k + 2 ∧ (∀ x ∈ r, 0 ≤ x ∧ x < n + 1) ∧ ∀ j, j + 2 < r.length → r.getD (j + 1) 0 ≠ 0 := by
  obtain ⟨mid, rfl, h2, h3⟩ := h
  refine ⟨by simp; omega, fun x hx => ?_, fun j hj => ?_⟩
  · rcases List.mem_cons.1 hx with h | h
    · omega
    · rcases List.mem_append.1 h with h | h
      · have := h3 x h; omega
      · have : x = 0 := by simpa using h
        omega
  · have hjm : j < mid.length := by simp at hj; omega
    have e : (0 :: (mid ++ [0])).getD (j + 1) 0 = mid[j] := by
      rw [List.getD_cons_succ, List.getD_eq_getElem?_getD, List.getElem?_append_left hjm, List.getElem?_eq_getElem hjm]; rfl
    rw [e]
    have := h3 mid[j] (List.getElem_mem _)
    omega
theorem routes_count (l : List UInt8) : (routesS l).length ≤ l.length + 1 := by
  have := (rtGo_len l).1
  unfold routesS
  by_cases hn : l = []
  · rw [if_pos hn]; simp
  · rw [if_neg hn]; simp; omega
theorem Shape.times {n k : Nat} {r : Rd} {l : List Int} (h : Shape n k l) (hc : 0 ≤ r.close) (D : Nat → Nat → Int) (S : List Int) : timeN r D l S = timeS r D l S := by
  have h3 := h.sites.2.2
  obtain ⟨mid, rfl, h2, _⟩ := h
  refine timeN_route r D _ S hc (by simp) rfl ?_ h3
  rw [show (0 :: (mid ++ [0])).length - 1 = mid.length + 1 by simp, List.getD_cons_succ, List.getD_eq_getElem?_getD, List.getElem?_append_right (Nat.le_refl _)]
  simp
end Go.Proofs.YtebinaopncclgabGreatDoor
