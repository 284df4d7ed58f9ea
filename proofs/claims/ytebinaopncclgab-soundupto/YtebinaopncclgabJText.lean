/- Walks: the faults of a plan's text. -/
import Derived.Test.YtebinaopncclgabSqP
namespace Go.Proofs.Ytebinaopncclgab
open Go.RowKit Go.IntWalk

/- is it a plan? by a walk over its bytes: the length of the route at hand, or none -/
def plStep (n : Nat) (st : Option Nat) (c : UInt8) : Option Nat :=
  match st with
  | none => none
  | some len => if c = 47 then (if len = 0 then none else some 0) else if c.toNat < 49 ∨ n < c.toNat - 48 then none else some (len + 1)
def plGo (n : Nat) (l : List UInt8) : Option Nat := l.foldl (plStep n) (some 0)
def isPlanS (n : Nat) (l : List UInt8) : Bool := match plGo n l with | none => false | some len => decide (0 < len) || l.isEmpty
theorem plGo_snoc (n : Nat) (l : List UInt8) (c : UInt8) : plGo n (l ++ [c]) = plStep n (plGo n l) c := by simp [plGo]
theorem plGo_none (n : Nat) (l t : List UInt8) (h : plGo n l = none) : plGo n (l ++ t) = none := by
  have key : ∀ t : List UInt8, t.foldl (plStep n) none = none := by
    intro t; induction t with
    | nil => rfl
    | cons x t ih => simpa [plStep] using ih
  unfold plGo at h ⊢
  rw [List.foldl_append, h, key]
theorem isPlan_no {n k : Nat} {l : List UInt8} (h : plGo n (l.take k) = none) : isPlanS n l = false := by
  unfold isPlanS
  have := plGo_none n (l.take k) (l.drop k) h
  rw [List.take_append_drop] at this
  rw [this]
theorem is_void (s : ByteArray) : s.toList.isEmpty = s.data.toList.isEmpty := by
  have h1 := ne_void s
  have h2 : s.data.toList.isEmpty = !decide (1 ≤ s.size) := by
    cases hd : s.data.toList with
    | nil =>
      have h3 : s.size = 0 := by have := congrArg List.length hd; simpa using this
      rw [h3]; rfl
    | cons x t =>
      have h3 : s.size = t.length + 1 := by have := congrArg List.length hd; simpa using this
      rw [h3]; simp
  rw [h2, ← h1]; simp

set_option maxHeartbeats 1000000 in
theorem isPlan_any (n : Nat) (s : ByteArray) (w : World) (_hn : n ≤ 7) (hs : s.size ≤ maxLen) :
    Calls Try.prog 66 #[.string s, .int .i64 n] w fun e w' => e = .returned (.bool (isPlanS n s.data.toList)) ∧ w' = w := by
  unfold maxLen at hs
  go_enter Try.func66, Try.ntmps66
  go_wp2_with fail
  go_loop [5, 6] (fun len i => ∃ k m : Nat, i = .int .i64 k ∧ len = .int .i64 m ∧ k ≤ s.size ∧ m ≤ k ∧ Hid (plGo n (s.data.toList.take k) = some m)) (fun _ i => s.size - (intOf i).toNat)
  case atStart => exact ⟨0, 0, rfl, rfl, by omega, by omega, rfl⟩
  case round =>
    obtain ⟨k, m, rfl, rfl, hk, hmk, HG⟩ := hrel
    by_cases hlt : k < s.size
    · have HT := take_snoc s k hlt
      have HS : Hid (plGo n (s.data.toList.take (k + 1)) = plStep n (some m) s[k]) := by show _ = _; rw [HT, plGo_snoc, HG.out]
      clear HT
      have hb : s[k].toNat < 256 := s[k].toNat_lt
      by_cases hc : s[k].toNat = 47
      · have hc8 : s[k] = 47 := UInt8.toNat_inj.1 (by rw [hc]; rfl)
        have e1 : ((s[k].toNat : Int) == 47) = true := by simp [hc]
        by_cases hm : m = 0
        · have HX : Hid (isPlanS n s.data.toList = false) := isPlan_no (k := k + 1) (by rw [HS.out]; unfold plStep; simp [hc8, hm])
          subst hm
          clear HS hc8 hc
          go_wp2
          go_ret
          exact ⟨ret_bool HX.out.symm, rfl⟩
        · have HX : Hid (plGo n (s.data.toList.take (k + 1)) = some 0) := by show _ = _; rw [HS.out]; unfold plStep; simp [hc8, hm]
          have e2 : ((m : Int) == 0) = false := by simp; omega
          clear HS hc8 hc
          go_wp2
          go_round
          case rel => exact ⟨k + 1, 0, by go_num, rfl, by omega, by omega, HX⟩
          case measure => simp [intOf]; omega
      · have hc8 : s[k] ≠ 47 := fun e => hc (by rw [e]; rfl)
        have e1 : ((s[k].toNat : Int) == 47) = false := by simp; omega
        by_cases h49 : s[k].toNat < 49
        · have HX : Hid (isPlanS n s.data.toList = false) := isPlan_no (k := k + 1) (by rw [HS.out]; unfold plStep; simp [hc8, h49])
          clear HS hc8 hc
          go_wp2
          go_ret
          exact ⟨ret_bool HX.out.symm, rfl⟩
        · by_cases hbig : n < s[k].toNat - 48
          · have HX : Hid (isPlanS n s.data.toList = false) := isPlan_no (k := k + 1) (by rw [HS.out]; unfold plStep; simp [hc8, hbig])
            clear HS hc8 hc
            go_wp2
            go_ret
            exact ⟨ret_bool HX.out.symm, rfl⟩
          · have HX : Hid (plGo n (s.data.toList.take (k + 1)) = some (m + 1)) := by show _ = _; rw [HS.out]; unfold plStep; simp [hc8, h49]; omega
            clear HS hc8 hc
            go_wp2
            go_round
            case rel => exact ⟨k + 1, m + 1, by go_num, by go_num, by omega, by omega, HX⟩
            case measure => simp [intOf]; omega
    · have HX : Hid (isPlanS n s.data.toList = (decide (0 < m) || s.data.toList.isEmpty)) := by
        show _ = _; unfold isPlanS; rw [← take_all s k (by omega), HG.out, take_all s k (by omega)]
      by_cases hm : 0 < m
      · go_wp2
        all_goals
          go_ret
          exact ⟨ret_bool (by rw [HX.out]; simp [hm]), rfl⟩
      · have hm0 : m = 0 := by omega
        subst hm0
        have HV : Hid (s.toList.isEmpty = s.data.toList.isEmpty) := is_void s
        go_wp2
        all_goals
          go_ret
          refine ⟨ret_bool ?_, rfl⟩
          rw [HX.out, ← HV.out]
          simp

/- how often each stop stands in a text -/
def cntS (l : List UInt8) (d : Nat) : Nat := (l.filter fun c => c.toNat == 48 + d).length
theorem cnt_snoc (l : List UInt8) (c : UInt8) (d : Nat) : cntS (l ++ [c]) d = cntS l d + (if c.toNat = 48 + d then 1 else 0) := by
  unfold cntS
  rw [List.filter_append, List.length_append]
  by_cases h : c.toNat = 48 + d
  · simp [h]
  · simp [h]
theorem cnt_le (l : List UInt8) (d : Nat) : cntS l d ≤ l.length := List.length_filter_le _ _
theorem plan_byte {n : Nat} {l : List UInt8} (h : isPlanS n l = true) {k : Nat} (hk : k < l.length) : l[k] = 47 ∨ (49 ≤ l[k].toNat ∧ l[k].toNat - 48 ≤ n) := by
  have h1 : plGo n (l.take (k + 1)) ≠ none := fun e => by rw [isPlan_no e] at h; cases h
  rw [List.take_succ_eq_append_getElem hk, plGo_snoc] at h1
  cases hp : plGo n (l.take k) with
  | none => rw [hp] at h1; exact absurd rfl h1
  | some m =>
    rw [hp] at h1
    unfold plStep at h1
    by_cases hc : l[k] = 47
    · exact .inl hc
    · right
      simp only [hc, if_false] at h1
      by_cases hb : l[k].toNat < 49 ∨ n < l[k].toNat - 48
      · rw [if_pos hb] at h1; exact absurd rfl h1
      · omega
def textFaultS (n : Nat) (l : List UInt8) : Int :=
  if isPlanS n l = false then 5 else if (List.range n).any (fun d => decide (1 < cntS l (d + 1))) = true then 6 else if (List.range n).any (fun d => decide (cntS l (d + 1) = 0)) = true then 7 else 0

def cnts (l : List UInt8) (n : Nat) : List Value := (List.range (n + 1)).map fun d => Value.int .i64 (cntS l d)
theorem cnts_at {l : List UInt8} {n d : Nat} (h : d < n + 1) : (cnts l n)[d]? = some (.int .i64 (cntS l d)) := by simp [cnts, h]
theorem cnts_set {l : List UInt8} {n d : Nat} {c : UInt8} (hc : c.toNat = 48 + d) (_hd : d < n + 1) : (cnts l n).set d (.int .i64 ((cntS l d : Int) + 1)) = cnts (l ++ [c]) n := by
  apply List.ext_getElem?
  intro i
  by_cases hi : i < n + 1
  · rw [List.getElem?_set]
    by_cases hid : d = i
    · subst hid
      rw [if_pos rfl, if_pos (by simp [cnts]; omega), cnts_at hi, cnt_snoc, if_pos hc]; simp
    · rw [if_neg hid, cnts_at hi, cnts_at hi, cnt_snoc, if_neg (by omega)]; simp
  · rw [List.getElem?_eq_none (by simp [cnts]; omega), List.getElem?_eq_none (by simp [cnts]; omega)]
theorem cnts_same {l : List UInt8} {n : Nat} {c : UInt8} (hc : c = 47) : cnts (l ++ [c]) n = cnts l n := by
  unfold cnts
  apply List.map_congr_left
  intro d _
  rw [cnt_snoc, if_neg (by rw [hc]; show ¬ (47 = 48 + d); omega)]; simp
theorem cnts_zero (n : Nat) : cnts [] n = List.replicate (n + 1) (.int .i64 0) := by
  apply List.ext_getElem?
  intro i
  by_cases hi : i < n + 1
  · rw [cnts_at hi, List.getElem?_replicate, if_pos hi]; rfl
  · rw [List.getElem?_eq_none (by simp [cnts]; omega), List.getElem?_eq_none (by simp; omega)]
end Go.Proofs.Ytebinaopncclgab
namespace Go.Proofs.Ytebinaopncclgab
open Go.RowKit Go.IntWalk

set_option maxRecDepth 100000 in
set_option maxHeartbeats 2000000 in
theorem textFault_any (n : Nat) (s : ByteArray) (w : World) (hn : n ≤ 7) (hs : s.size ≤ maxLen) :
    Calls Try.prog 52 #[.string s, .int .i64 n] w fun e w' => e = .returned (.int .i64 (textFaultS n s.data.toList)) ∧ Below w.heap.size w w' := by
  obtain ⟨i0, hi, hz0, hz1, hz2⟩ := info_parts Try.infoInt
  have HP := hid (isPlan_any n s w hn hs)
  unfold maxLen at hs
  cases hpl : isPlanS n s.data.toList
  · have HF : Hid (textFaultS n s.data.toList = 5) := by show _ = _; unfold textFaultS; rw [if_pos hpl]
    rw [hpl] at HP
    go_enter Try.func52, Try.ntmps52
    go_wp2_with (go_at_call 66; refine HP.out.mono ?_; rintro e1 w1 ⟨rfl, rfl⟩)
    go_ret
    exact ⟨ret_int HF.out.symm, Below.refl _ _⟩
  · rw [hpl] at HP
    have HPL := hid hpl
    clear hpl
    go_enter Try.func52, Try.ntmps52
    go_wp2_with (first
      | (go_at_call 66; refine HP.out.mono ?_; rintro e1 w1 ⟨he1, hw1⟩; subst he1; rw [hw1]; clear hw1 w1)
      | (at_make; refine wpList_make_full _ rfl _ _ 31 rfl w.heap.size 3 i0 (.int .i64 0) 1 Try.underlying31 hi hz0 hz1 .i64 .i64 _ _ (n + 1) rfl rfl ?m1 ?m2 ?m3 ?m4 ?m5 ?_))
    case m1 => omega
    case m2 => omega
    case m3 => rw [hz2]; omega
    case m4 => unfold maxLen; omega
    case m5 => exact Nat.le_refl _
    intro w1 hown1 hgrow1
    have hbel1 : Below w.heap.size w w1 := (Below.refl _ _).grown hgrow1 (Nat.le_refl _) (by simp)
    have hown1' : w1.ownsRow w.heap.size 3 1 (.slice (some ⟨w.heap.size, 0, none⟩) (n + 1 : Nat) (n + 1 : Nat)) (n + 1) (cnts (s.data.toList.take 0) n) := by
      have e : (madeCells #[Value.int IntKind.i64 0] (n + 1)).toList = cnts (s.data.toList.take 0) n := by rw [toList_madeCells_one, List.take_zero, cnts_zero]
      rw [← e]; exact hown1
    clear hown1 hgrow1
    go_wp2
    go_loopw [6] (fun i wr => ∃ k : Nat, k ≤ s.size ∧ i = .int .i64 k ∧ Hid (wr.ownsRow w.heap.size 3 1 (.slice (some ⟨w.heap.size, 0, none⟩) (n + 1 : Nat) (n + 1 : Nat)) (n + 1) (cnts (s.data.toList.take k) n)) ∧ Hid (Below w.heap.size w wr)) (fun i _ => s.size - (intOf i).toNat)
    case atStart => exact ⟨0, Nat.zero_le _, rfl, hown1', hbel1⟩
    case round =>
      clear hown1' hbel1
      obtain ⟨k, hk, rfl, HO, HB⟩ := hrel
      by_cases hlt : k < s.size
      · have HT := hid (take_snoc s k hlt)
        have hb : s[k].toNat < 256 := s[k].toNat_lt
        have hpb : s[k] = 47 ∨ (49 ≤ s[k].toNat ∧ s[k].toNat - 48 ≤ n) := plan_byte HPL.out (k := k) (by simpa using hlt)
        by_cases hc : s[k].toNat = 47
        · have hc8 : s[k] = 47 := UInt8.toNat_inj.1 (by rw [hc]; rfl)
          have HC := hid hc8
          have e1 : ((s[k].toNat : Int) == 47) = true := by simp [hc]
          clear hc8 hpb
          go_wp2
          go_roundw
          case rel =>
            refine ⟨k + 1, by omega, by go_num, ?_, HB⟩
            show World.ownsRow _ _ _ _ _ _ _
            rw [HT.out, cnts_same HC.out]; exact HO.out
          case measure => simp [intOf]; omega
        · have hd : 49 ≤ s[k].toNat ∧ s[k].toNat - 48 ≤ n := by
            rcases hpb with h | h
            · exact absurd (by rw [h]; rfl) hc
            · exact h
          have e1 : ((s[k].toNat : Int) == 47) = false := by simp; omega
          obtain ⟨d, hdd⟩ : ∃ d, s[k].toNat = 48 + d := ⟨s[k].toNat - 48, by omega⟩
          have HD := hid hdd
          have hdn : d < n + 1 := by omega
          have hdl : d ≤ 7 := by omega
          have hfz := HO.out.frozenAt d
          have hol : wr.cell? ⟨w.heap.size, d, none⟩ = some (.int .i64 (cntS (s.data.toList.take k) d)) := by rw [HO.out.cellAt d (by omega)]; exact cnts_at hdn
          have hcl : cntS (s.data.toList.take k) d ≤ k := Nat.le_trans (cnt_le _ _) (List.length_take_le _ _)
          clear hpb
          go_wp2
          have S := HO.out.stored d (.int .i64 ((cntS (s.data.toList.take k) d : Int) + 1))
          go_roundw
          case rel =>
            refine ⟨k + 1, by omega, by go_num, ?_, HB.out.setCell (Nat.le_refl _) _⟩
            show World.ownsRow _ _ _ _ _ _ _
            rw [HT.out, ← cnts_set HD.out hdn]; exact S.1
          case measure => simp [intOf]; omega
      · have HO2 : Hid (wr.ownsRow w.heap.size 3 1 (.slice (some ⟨w.heap.size, 0, none⟩) (n + 1 : Nat) (n + 1 : Nat)) (n + 1) (cnts s.data.toList n)) := by
          have := HO.out
          rw [take_all s k (by omega)] at this
          exact this
        have hcnt : ∀ d, cntS s.data.toList d ≤ s.size := fun d => Nat.le_trans (cnt_le _ _) (by simp)
        have HCN := hid hcnt
        clear HO hcnt
        go_wp2_with fail
        go_loop [7] (fun i => ∃ p : Nat, p ≤ n ∧ i = .int .i64 (p + 1 : Nat) ∧ Hid (∀ j, j < p → cntS s.data.toList (j + 1) ≤ 1)) (fun i => n + 1 - (intOf i).toNat)
        case atStart => exact ⟨0, Nat.zero_le _, rfl, fun j hj => absurd hj (by omega)⟩
        case round =>
          obtain ⟨p, hp, rfl, HS⟩ := hrel
          by_cases hpn : p < n
          · have hol : wr.cell? ⟨w.heap.size, p + 1, none⟩ = some (.int .i64 (cntS s.data.toList (p + 1))) := by rw [HO2.out.cellAt (p + 1) (by omega)]; exact cnts_at (by omega)
            have hcl := HCN.out (p + 1)
            by_cases hgt : 1 < cntS s.data.toList (p + 1)
            · have HF : Hid (textFaultS n s.data.toList = 6) := by
                show _ = _
                unfold textFaultS
                rw [if_neg (by rw [HPL.out]; simp), if_pos]
                exact List.any_eq_true.2 ⟨p, by simp [hpn], by simpa using hgt⟩
              go_wp2
              go_ret
              exact ⟨ret_int HF.out.symm, HB.out⟩
            · go_wp2
              go_round
              case rel => exact ⟨p + 1, by omega, by go_num, fun j hj => by
                by_cases h : j = p
                · subst h; omega
                · exact HS.out j (by omega)⟩
              case measure => simp [intOf]; omega
          · have hpe : p = n := by omega
            subst hpe
            have HT6 : Hid ((List.range p).any (fun d => decide (1 < cntS s.data.toList (d + 1))) = false) := by
              show _ = _
              rw [List.any_eq_false]
              intro d hd
              have := HS.out d (by simpa using hd)
              simpa using this
            clear HS
            go_wp2_with fail
            go_loop [8] (fun i => ∃ q : Nat, q ≤ p ∧ i = .int .i64 (q + 1 : Nat) ∧ Hid (∀ j, j < q → cntS s.data.toList (j + 1) ≠ 0)) (fun i => p + 1 - (intOf i).toNat)
            case atStart => exact ⟨0, Nat.zero_le _, rfl, fun j hj => absurd hj (by omega)⟩
            case round =>
              obtain ⟨q, hq, rfl, HS⟩ := hrel
              by_cases hqn : q < p
              · have hol : wr.cell? ⟨w.heap.size, q + 1, none⟩ = some (.int .i64 (cntS s.data.toList (q + 1))) := by rw [HO2.out.cellAt (q + 1) (by omega)]; exact cnts_at (by omega)
                have hcl := HCN.out (q + 1)
                by_cases hgt : cntS s.data.toList (q + 1) = 0
                · have HF : Hid (textFaultS p s.data.toList = 7) := by
                    show _ = _
                    unfold textFaultS
                    rw [if_neg (by rw [HPL.out]; simp), if_neg (by rw [HT6.out]; simp), if_pos]
                    exact List.any_eq_true.2 ⟨q, by simp [hqn], by simpa using hgt⟩
                  rw [hgt] at hol
                  go_wp2
                  go_ret
                  exact ⟨ret_int HF.out.symm, HB.out⟩
                · have e2 : ((cntS s.data.toList (q + 1) : Int) == 0) = false := by simp; omega
                  go_wp2
                  go_round
                  case rel => exact ⟨q + 1, by omega, by go_num, fun j hj => by
                    by_cases h : j = q
                    · subst h; exact hgt
                    · exact HS.out j (by omega)⟩
                  case measure => simp [intOf]; omega
              · have hqe : q = p := by omega
                subst hqe
                have HF : Hid (textFaultS q s.data.toList = 0) := by
                  show _ = _
                  unfold textFaultS
                  rw [if_neg (by rw [HPL.out]; simp), if_neg (by rw [HT6.out]; simp), if_neg]
                  intro h
                  obtain ⟨d, hd, h0⟩ := List.any_eq_true.1 h
                  exact HS.out d (by simpa using hd) (by simpa using h0)
                go_wp2
                go_ret
                exact ⟨ret_int HF.out.symm, HB.out⟩
end Go.Proofs.Ytebinaopncclgab
