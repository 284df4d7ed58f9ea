/- Walks: a plan is looked at and counted by the statement. -/
import Derived.Test.YtebinaopncclgabJOf
import Derived.Test.YtebinaopncclgabDrvPlain
namespace Go.Proofs.Ytebinaopncclgab
open Go.RowKit Go.IntWalk

theorem area_box {w W : World} {r : Rd} {vs vr vw : Value} (h : W = w.alloc (.cells (ground r vs vr vw) 75)) (hs : StR w vs r) (hq : SqR w vw (r.stops.length + 1) (siteD r)) : AreaAt W w.heap.size r (siteD r) vs vw ∧ Below w.heap.size w W := by
  subst h
  have hb := heap_alloc_new w (.cells (ground r vs vr vw) 75)
  have hw := below1 w (.cells (ground r vs vr vw) 75)
  refine ⟨⟨by simp, ?_, ?_, ?_, ?_, ?_, hs.below hw, hq.below hw⟩, hw⟩ <;> (rw [cell_of_row _ _ _ _ _ _ hb]; rfl)


end Go.Proofs.Ytebinaopncclgab
namespace Go.Proofs.Ytebinaopncclgab
open Go.RowKit Go.IntWalk

theorem cnt_mono (l : List UInt8) (k d : Nat) : cntS (l.take k) d ≤ cntS l d := by
  have h : cntS l d = cntS (l.take k) d + cntS (l.drop k) d := by
    unfold cntS
    rw [← List.length_append, ← List.filter_append, List.take_append_drop]
  omega
theorem fault_plan {n : Nat} {l : List UInt8} (h : isPlanS n l = false) : textFaultS n l = 5 := by unfold textFaultS; rw [if_pos h]
theorem fault_twice {n d : Nat} {l : List UInt8} (hd : d < n) (h : 1 < cntS l (d + 1)) : textFaultS n l ≠ 0 := fun e => by
  have := (fine_size e).2.2 d hd; omega
theorem fault_end {n : Nat} {l : List UInt8} (hp : isPlanS n l = true) (hc : ∀ d, d < n → cntS l (d + 1) ≤ 1) : (textFaultS n l = 0) ↔ cntAll l n = n := by
  constructor
  · intro h
    have h1 := (fine_size h).2.2
    have key : ∀ m, m ≤ n → cntAll l m = m := by
      intro m
      induction m with
      | zero => intro _; rfl
      | succ m ih => intro hm; unfold cntAll; rw [ih (by omega), h1 m (by omega)]
    exact key n (Nat.le_refl _)
  · intro h
    have h2 : ∀ d, d < n → cntS l (d + 1) ≠ 0 := by
      intro d hd e0
      have key : ∀ m, m ≤ n → cntAll l m ≤ m ∧ (d < m → cntAll l m < m) := by
        intro m
        induction m with
        | zero => intro _; exact ⟨Nat.le_refl _, fun h => absurd h (by omega)⟩
        | succ m ih =>
          intro hm
          obtain ⟨i1, i2⟩ := ih (by omega)
          have h3 := hc m (by omega)
          unfold cntAll
          refine ⟨by omega, fun hdm => ?_⟩
          by_cases he : d = m
          · subst he; omega
          · have := i2 (by omega); omega
      have := (key n (Nat.le_refl _)).2 hd
      omega
    unfold textFaultS
    rw [if_neg (by rw [hp]; simp), if_neg, if_neg]
    · intro h7
      obtain ⟨d, h8, h9⟩ := List.any_eq_true.1 h7
      exact h2 d (by simpa using h8) (by simpa using h9)
    · intro h6
      obtain ⟨d, h8, h9⟩ := List.any_eq_true.1 h6
      have := hc d (by simpa using h8)
      have : 1 < cntS l (d + 1) := by simpa using h9
      omega
def dools (l : List UInt8) (n : Nat) : List Value := (List.range n).map fun d => Value.bool (decide (0 < cntS l (d + 1)))
theorem dools_at {l : List UInt8} {n d : Nat} (h : d < n) : (dools l n)[d]? = some (.bool (decide (0 < cntS l (d + 1)))) := by simp [dools, h]
theorem dools_zero (n : Nat) : dools [] n = List.replicate n (.bool false) := by
  apply List.ext_getElem?
  intro i
  by_cases hi : i < n
  · rw [dools_at hi, List.getElem?_replicate, if_pos hi]; rfl
  · rw [List.getElem?_eq_none (by simp [dools]; omega), List.getElem?_eq_none (by simp; omega)]
theorem dools_slash {l : List UInt8} {n : Nat} {c : UInt8} (hc : c = 47) : dools (l ++ [c]) n = dools l n := by
  unfold dools
  apply List.map_congr_left
  intro d _
  rw [cnt_snoc, if_neg (by rw [hc]; show ¬ (47 = 48 + (d + 1)); omega)]; simp
theorem dools_set {l : List UInt8} {n d : Nat} {c : UInt8} (hc : c.toNat = 48 + (d + 1)) : (dools l n).set d (.bool true) = dools (l ++ [c]) n := by
  apply List.ext_getElem?
  intro i
  by_cases hi : i < n
  · rw [List.getElem?_set]
    by_cases hid : d = i
    · subst hid
      rw [if_pos rfl, if_pos (by simp [dools]; omega), dools_at hi, cnt_snoc, if_pos hc]; simp
    · rw [if_neg hid, dools_at hi, dools_at hi, cnt_snoc, if_neg (by omega)]; simp
  · rw [List.getElem?_eq_none (by simp [dools]; omega), List.getElem?_eq_none (by simp [dools]; omega)]
theorem cntAll_set {l : List UInt8} {n d : Nat} {c : UInt8} (hc : c.toNat = 48 + (d + 1)) (hd : d < n) : cntAll (l ++ [c]) n = cntAll l n + 1 := by
  have key : ∀ m, cntAll (l ++ [c]) m = cntAll l m + (if d < m then 1 else 0) := by
    intro m
    induction m with
    | zero => rfl
    | succ m ih =>
      unfold cntAll
      rw [ih, cnt_snoc]
      by_cases h : d = m
      · subst h
        rw [if_pos hc, if_neg (by omega), if_pos (by omega)]; omega
      · rw [if_neg (by omega : ¬ c.toNat = 48 + (m + 1))]
        by_cases h2 : d < m
        · rw [if_pos h2, if_pos (by omega)]; omega
        · rw [if_neg h2, if_neg (by omega)]; omega
  rw [key, if_pos hd]
theorem cntAll_nil (n : Nat) : cntAll [] n = 0 := by
  induction n with
  | zero => rfl
  | succ n ih => unfold cntAll; rw [ih]; rfl
theorem Try.infoBool : (Try.prog.info? 4).map (fun i => (i.zero, i.size, i.bytes)) = some (some (.bool false), 1, 1) := by kernel_rfl

set_option maxRecDepth 100000 in
set_option maxHeartbeats 4000000 in
theorem whole_any (n : Nat) (s : ByteArray) (w : World) (hn : n ≤ 7) (hs : s.size ≤ maxLen) :
    Calls Try.prog 13 #[.string s, .int .i64 n] w fun e w' => e = .returned (.bool (decide (textFaultS n s.data.toList = 0))) ∧ Below w.heap.size w w' := by
  obtain ⟨i0, hi, hz0, hz1, hz2⟩ := info_parts Try.infoBool
  unfold maxLen at hs
  go_enter Try.func13, Try.ntmps13
  go_wp2_with (at_make; refine wpList_make_full _ rfl _ _ 57 rfl w.heap.size 4 i0 (.bool false) 1 Try.underlying57 hi hz0 hz1 .i64 .i64 _ _ n rfl rfl ?m1 ?m2 ?m3 ?m4 ?m5 ?_)
  case m1 => rfl
  case m2 => rfl
  case m3 => rw [hz2]; omega
  case m4 => unfold maxLen; omega
  case m5 => exact Nat.le_refl _
  intro w1 hown1 hgrow1
  have hbel1 : Below w.heap.size w w1 := (Below.refl _ _).grown hgrow1 (Nat.le_refl _) (by simp)
  have hown1' : w1.ownsRow w.heap.size 4 1 (.slice (some ⟨w.heap.size, 0, none⟩) n n) n (dools (s.data.toList.take 0) n) := by
    have e : (madeCells #[Value.bool false] n).toList = dools (s.data.toList.take 0) n := by rw [toList_madeCells_one, List.take_zero, dools_zero]
    rw [← e]; exact hown1
  clear hown1 hgrow1
  go_wp2_with fail
  go_loopw [6, 7, 8] (fun st la i wr => ∃ (k m q : Nat) (c : UInt8), i = .int .i64 k ∧ st = .int .i64 q ∧ la = .int .u8 c.toNat ∧ k ≤ s.size ∧ q ≤ k ∧ Hid (q = cntAll (s.data.toList.take k) n) ∧ Hid (plGo n (s.data.toList.take k) = some m) ∧ Hid (c = 47 ↔ m = 0) ∧ Hid (c = 47 → 0 < k → k < s.size) ∧ Hid (∀ d, d < n → cntS (s.data.toList.take k) (d + 1) ≤ 1) ∧ Hid (wr.ownsRow w.heap.size 4 1 (.slice (some ⟨w.heap.size, 0, none⟩) n n) n (dools (s.data.toList.take k) n)) ∧ Hid (Below w.heap.size w wr)) (fun _ _ i _ => s.size - (intOf i).toNat)
  case atStart => exact ⟨0, 0, 0, 47, rfl, rfl, rfl, by omega, by omega, (cntAll_nil n).symm, rfl, by show _ ↔ _; simp, fun _ h => absurd h (by omega), fun d _ => by show cntS [] _ ≤ 1; simp [cntS], hown1', hbel1⟩
  case round =>
    clear hown1' hbel1
    obtain ⟨k, m, q, c, rfl, rfl, rfl, hk, hq, HQ, HG, HM, HE, HC, HO, HB⟩ := hrel
    by_cases hlt : k < s.size
    · have HT := hid (take_snoc s k hlt)
      have hb : s[k].toNat < 256 := s[k].toNat_lt
      have HS : Hid (plGo n (s.data.toList.take (k + 1)) = plStep n (some m) s[k]) := by show _ = _; rw [HT.out, plGo_snoc, HG.out]
      by_cases hc : s[k].toNat = 47
      · have hc8 : s[k] = 47 := UInt8.toNat_inj.1 (by rw [hc]; rfl)
        have e1 : ((s[k].toNat : Int) == 47) = true := by simp [hc]
        by_cases hl : c = 47
        · have HX : Hid (decide (textFaultS n s.data.toList = 0) = false) := by
            have hm0 := HM.out.1 hl
            have h5 := fault_plan (isPlan_no (n := n) (k := k + 1) (l := s.data.toList) (by rw [HS.out]; unfold plStep; simp [hc8, hm0]))
            show _ = _
            rw [h5]; rfl
          subst hl
          clear hc8 hc HS
          go_wp2_with go_in
          all_goals
            go_ret
            exact ⟨ret_bool HX.out.symm, HB.out⟩
        · have hcn : c.toNat ≠ 47 := fun e => hl (UInt8.toNat_inj.1 (by rw [e]; rfl))
          have e2 : ((c.toNat : Int) == 47) = false := by rw [beq_eq_false_iff_ne]; omega
          have hm0 : m ≠ 0 := fun e => hl (HM.out.2 e)
          have HP0 : Hid (plGo n (s.data.toList.take (k + 1)) = some 0) := by show _ = _; rw [HS.out]; unfold plStep; simp [hc8, hm0]
          by_cases hend : k + 1 = s.size
          · have HX : Hid (decide (textFaultS n s.data.toList = 0) = false) := by
              have h5 := fault_plan (n := n) (l := s.data.toList) (by
                have h := HP0.out
                rw [take_all s (k + 1) (by omega)] at h
                unfold isPlanS
                rw [h]
                have hne : s.data.toList ≠ [] := fun e => by
                  have h6 : s.data.toList.length = s.size := by simp
                  rw [e] at h6
                  have h7 : (0 : Nat) = s.size := h6
                  omega
                simpa using hne)
              show _ = _
              rw [h5]; rfl
            have e3 : ((k : Int) + 1 == (s.size : Int)) = true := by simp; omega
            clear hc8 hc HS hm0 hcn hend
            go_wp2_with go_in
            all_goals
              go_ret
              exact ⟨ret_bool HX.out.symm, HB.out⟩
          · have e3 : ((k : Int) + 1 == (s.size : Int)) = false := by simp; omega
            have HQ2 : Hid (q = cntAll (s.data.toList.take (k + 1)) n) := by show _ = _; rw [HT.out, cntAll_slash hc8]; exact HQ.out
            have HC2 : Hid (∀ d, d < n → cntS (s.data.toList.take (k + 1)) (d + 1) ≤ 1) := fun d hd => by
              rw [HT.out, cnt_snoc, if_neg (by rw [hc]; show ¬ (47 = 48 + (d + 1)); omega)]; have := HC.out d hd; omega
            have HO2 : Hid (wr.ownsRow w.heap.size 4 1 (.slice (some ⟨w.heap.size, 0, none⟩) n n) n (dools (s.data.toList.take (k + 1)) n)) := by
              show World.ownsRow _ _ _ _ _ _ _
              rw [HT.out, dools_slash hc8]; exact HO.out
            have HCC := hid hc8
            clear hc8 hc HS hm0 hcn HQ HC HO
            go_wp2_with go_in
            go_roundw
            case rel => exact ⟨k + 1, 0, q, s[k], by go_num, rfl, rfl, by omega, by omega, HQ2, HP0, ⟨fun _ => rfl, fun _ => HCC.out⟩, fun _ _ => by omega, HC2, HO2, HB⟩
            case measure => simp [intOf]; omega
      · have hc8 : s[k] ≠ 47 := fun e => hc (by rw [e]; rfl)
        have e1 : ((s[k].toNat : Int) == 47) = false := by simp; omega
        by_cases hbad : s[k].toNat < 49 ∨ n < s[k].toNat - 48
        · have HX : Hid (decide (textFaultS n s.data.toList = 0) = false) := by
            have h5 := fault_plan (isPlan_no (n := n) (k := k + 1) (l := s.data.toList) (by rw [HS.out]; unfold plStep; simp only [hc8, if_false]; rw [if_pos hbad]))
            show _ = _
            rw [h5]; rfl
          clear hc8 HS
          rcases hbad with h49 | hbig
          · go_wp2_with go_in
            all_goals
              go_ret
              exact ⟨ret_bool HX.out.symm, HB.out⟩
          · by_cases h49 : s[k].toNat < 49
            · go_wp2_with go_in
              all_goals
                go_ret
                exact ⟨ret_bool HX.out.symm, HB.out⟩
            · go_wp2_with go_in
              all_goals
                go_ret
                exact ⟨ret_bool HX.out.symm, HB.out⟩
        · obtain ⟨d, hd⟩ : ∃ d, s[k].toNat = 48 + (d + 1) := ⟨s[k].toNat - 49, by omega⟩
          have hdn : d < n := by omega
          have HP1 : Hid (plGo n (s.data.toList.take (k + 1)) = some (m + 1)) := by show _ = _; rw [HS.out]; unfold plStep; simp only [hc8, if_false]; rw [if_neg hbad]
          have HDD := hid hd
          have HC8 := hid hc8
          have hol : wr.cell? ⟨w.heap.size, d, none⟩ = some (.bool (decide (0 < cntS (s.data.toList.take k) (d + 1)))) := by rw [HO.out.cellAt d (by omega)]; exact dools_at hdn
          have hfz := HO.out.frozenAt d
          have id : (0 : Int) ≤ (d : Int) := by omega
          have jd : (d : Int) < (n : Int) := by omega
          have h0w : w.heap.size < wr.heap.size := own_cells_int HO.out
          have hkd : IntKind.i64.wrap ((s[k].toNat : Int) - 49) = d := by rw [show (s[k].toNat : Int) - 49 = d by omega]; exact i64_fits _ (by omega)
          have hkd2 : (s[k].toNat : Int) - 49 = d := by omega
          have hk49 : 49 ≤ s[k].toNat ∧ s[k].toNat ≤ 55 := by omega
          clear hbad hc8 HS hd
          by_cases hseen : 0 < cntS (s.data.toList.take k) (d + 1)
          · have HX : Hid (decide (textFaultS n s.data.toList = 0) = false) := by
              have h1 : 1 < cntS s.data.toList (d + 1) := by
                have h2 := cnt_mono s.data.toList (k + 1) (d + 1)
                rw [HT.out, cnt_snoc, if_pos HDD.out] at h2
                omega
              exact decide_eq_false (fault_twice hdn h1)
            rw [decide_eq_true hseen] at hol
            clear hseen
            go_wp2_with go_in
            all_goals
              go_ret
              exact ⟨ret_bool HX.out.symm, HB.out⟩
          · rw [decide_eq_false hseen] at hol
            have HQ2 : Hid (q + 1 = cntAll (s.data.toList.take (k + 1)) n) := by show _ = _; rw [HT.out, cntAll_set HDD.out hdn, ← HQ.out]
            have HC2 : Hid (∀ e, e < n → cntS (s.data.toList.take (k + 1)) (e + 1) ≤ 1) := fun e he => by
              rw [HT.out, cnt_snoc]
              by_cases h : e = d
              · subst h; rw [if_pos HDD.out]; omega
              · rw [if_neg (by have := HDD.out; omega)]; have := HC.out e he; omega
            have HST := hid (HO.out.stored d (.bool true)).1
            have HBS : Hid (Below w.heap.size w (wr.setCell ⟨w.heap.size, d, none⟩ (.bool true))) := HB.out.setCell (Nat.le_refl _) _
            clear hseen HQ HC
            go_wp2_with go_in
            go_roundw
            case rel =>
              refine ⟨k + 1, m + 1, q + 1, s[k], by go_num, by go_num, rfl, by omega, by omega, HQ2, HP1, ⟨fun h => absurd h HC8.out, fun h => absurd h (by omega)⟩, fun h => absurd h HC8.out, HC2, ?_, HBS⟩
              show World.ownsRow _ _ _ _ _ _ _
              rw [HT.out, ← dools_set HDD.out]; exact HST.out
            case measure => simp [intOf]; omega
    · have hall : s.data.toList.take k = s.data.toList := take_all s k (by omega)
      have HX : Hid (decide (textFaultS n s.data.toList = 0) = ((q : Int) == (n : Int))) := by
        have hpl : isPlanS n s.data.toList = true := by
          have h := HG.out
          rw [hall] at h
          unfold isPlanS
          rw [h]
          by_cases hm : m = 0
          · have h1 := HM.out.2 hm
            have h2 : k = 0 := by
              by_cases hk0 : 0 < k
              · have := HE.out h1 hk0; omega
              · omega
            have h3 : s.data.toList = [] := by
              have h6 : s.data.toList.length = s.size := by simp
              exact List.length_eq_zero_iff.1 (by omega)
            rw [h3]; simp
          · have : 0 < m := by omega
            simp [this]
        have h4 := fault_end hpl (fun d hd => by have := HC.out d hd; rw [hall] at this; exact this)
        have h5 := HQ.out
        rw [hall] at h5
        rw [← h5] at h4
        show _ = _
        by_cases hqn : q = n
        · rw [decide_eq_true (h4.2 hqn), hqn]; simp
        · rw [decide_eq_false (fun e => hqn (h4.1 e))]; symm; simp; omega
      clear hall
      go_wp2_with go_in
      all_goals
        go_ret
        exact ⟨ret_bool HX.out.symm, HB.out⟩

/- how many routes a plan has -/
theorem rt_count (l : List UInt8) (h : l ≠ []) : (routesS l).length = (rtGo l).1.length + 1 := by unfold routesS; rw [if_neg h]; simp
set_option maxRecDepth 100000 in
set_option maxHeartbeats 2000000 in
theorem kroutes_any (s : ByteArray) (w : World) (hs : s.size ≤ 140737488355328) :
    Calls Try.prog 14 #[.string s] w fun e w' => e = .returned (.int .i64 ((routesS s.data.toList).length : Nat)) ∧ w' = w := by
  have HV : Hid (s.toList.isEmpty = s.data.toList.isEmpty) := is_void s
  obtain ⟨b, hb⟩ : ∃ b : Nat, b = if s.data.toList = [] then 0 else 1 := ⟨_, rfl⟩
  have HBB := hid hb
  have hb1 : b ≤ 1 := by rw [hb]; split <;> omega
  have HF : Hid ((routesS s.data.toList).length = b + (rtGo s.data.toList).1.length) := by
    show _ = _
    rw [hb]
    by_cases h : s.data.toList = []
    · rw [if_pos h, h]; rfl
    · rw [if_neg h, rt_count _ h]; omega
  have key : Hid (∀ (w : World) (b : Nat), True) := fun _ _ => trivial
  clear key
  cases hem : s.data.toList.isEmpty
  · have hv : s.toList.isEmpty = false := by rw [HV.out, hem]
    have hbe : b = 1 := by rw [hb, if_neg (fun e => by rw [e] at hem; cases hem)]
    subst hbe
    clear hb HBB hem
    go_enter Try.func14, Try.ntmps14
    go_wp2_with fail
    go_loop [3, 4] (fun c i => ∃ k m : Nat, i = .int .i64 k ∧ c = .int .i64 (m + 1 : Nat) ∧ k ≤ s.size ∧ m ≤ k ∧ Hid ((rtGo (s.data.toList.take k)).1.length = m)) (fun _ i => s.size - (intOf i).toNat)
    case atStart => exact ⟨0, 0, rfl, rfl, by omega, by omega, rfl⟩
    case round =>
      obtain ⟨k, m, rfl, rfl, hk, hmk, HG⟩ := hrel
      by_cases hlt : k < s.size
      · have HT := take_snoc s k hlt
        have hb : s[k].toNat < 256 := s[k].toNat_lt
        by_cases hc : s[k].toNat = 47
        · have hc8 : s[k] = 47 := UInt8.toNat_inj.1 (by rw [hc]; rfl)
          have HX : Hid ((rtGo (s.data.toList.take (k + 1))).1.length = m + 1) := by show _ = _; rw [HT, rtGo_snoc]; unfold rtStep; rw [if_pos hc8]; simp [HG.out]
          have e1 : ((s[k].toNat : Int) == 47) = true := by simp [hc]
          clear HT hc hc8
          go_wp2
          go_round
          case rel => exact ⟨k + 1, m + 1, by go_num, by go_num, by omega, by omega, HX⟩
          case measure => simp [intOf]; omega
        · have hc8 : s[k] ≠ 47 := fun e => hc (by rw [e]; rfl)
          have HX : Hid ((rtGo (s.data.toList.take (k + 1))).1.length = m) := by show _ = _; rw [HT, rtGo_snoc]; unfold rtStep; rw [if_neg hc8]; exact HG.out
          have e1 : ((s[k].toNat : Int) == 47) = false := by simp; omega
          clear HT hc hc8
          go_wp2
          go_round
          case rel => exact ⟨k + 1, m, by go_num, rfl, by omega, by omega, HX⟩
          case measure => simp [intOf]; omega
      · have HX : Hid ((routesS s.data.toList).length = m + 1) := by have h := HG.out; rw [take_all s k (by omega)] at h; show _ = _; rw [HF.out, h]; omega
        go_wp2
        go_ret
        exact ⟨ret_int (by rw [HX.out]; omega), rfl⟩
  · have hv : s.toList.isEmpty = true := by rw [HV.out, hem]
    have he : s.data.toList = [] := by simpa using hem
    have hz : s.size = 0 := by have := congrArg List.length he; simpa using this
    have HX : Hid ((routesS s.data.toList).length = 0) := by show _ = _; rw [he]; rfl
    clear hem he hb HBB HF
    go_enter Try.func14, Try.ntmps14
    go_wp2_with fail
    go_loop [3, 4] (fun c i => c = .int .i64 0 ∧ ∃ k : Nat, i = .int .i64 k ∧ k ≤ s.size) (fun _ i => s.size - (intOf i).toNat)
    case atStart => exact ⟨rfl, 0, rfl, by omega⟩
    case round =>
      obtain ⟨rfl, k, rfl, hk⟩ := hrel
      have hlt : ¬ k < s.size := by omega
      go_wp2
      go_ret
      exact ⟨ret_int (by rw [HX.out]; rfl), rfl⟩
end Go.Proofs.Ytebinaopncclgab
