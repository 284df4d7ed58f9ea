/- Walks: a plan is judged. -/
import Derived.Test.YtebinaopncclgaaGreatDoorJText
import Derived.Test.YtebinaopncclgaaGreatDoorJAll
namespace Go.Proofs.YtebinaopncclgaaGreatDoor

theorem snoc_ind {P : List UInt8 → Prop} (h0 : P []) (h1 : ∀ l c, P l → P (l ++ [c])) (l : List UInt8) : P l := by
  have key : ∀ n (l : List UInt8), l.length = n → P l := by
    intro n
    induction n with
    | zero => intro l h; rw [List.length_eq_zero_iff.1 h]; exact h0
    | succ n ih =>
      intro l h
      have hne : l ≠ [] := fun e => by rw [e] at h; simp at h
      rw [← List.dropLast_concat_getLast hne]
      exact h1 _ _ (ih _ (by simp [h]))
  exact key _ l rfl
/- how many stops stand in a text, all in all -/
def cntAll (l : List UInt8) : Nat → Nat
  | 0 => 0
  | n + 1 => cntAll l n + cntS l (n + 1)
theorem cntAll_slash {l : List UInt8} {c : UInt8} (hc : c = 47) (n : Nat) : cntAll (l ++ [c]) n = cntAll l n := by
  induction n with
  | zero => rfl
  | succ n ih => unfold cntAll; rw [ih, cnt_snoc, if_neg (by rw [hc]; show ¬ (47 = 48 + (n + 1)); omega)]; omega
theorem cntAll_other {l : List UInt8} {c : UInt8} (n : Nat) : cntAll l n ≤ cntAll (l ++ [c]) n := by
  induction n with
  | zero => exact Nat.le_refl _
  | succ n ih => unfold cntAll; rw [cnt_snoc]; omega
theorem cntAll_stop {l : List UInt8} {c : UInt8} (n : Nat) (h1 : 49 ≤ c.toNat) (h2 : c.toNat - 48 ≤ n) : cntAll l n + 1 ≤ cntAll (l ++ [c]) n := by
  induction n with
  | zero => omega
  | succ n ih =>
    unfold cntAll
    rw [cnt_snoc]
    by_cases h : c.toNat = 48 + (n + 1)
    · rw [if_pos h]; have := cntAll_other (l := l) (c := c) n; omega
    · rw [if_neg h]; have := ih (by omega); omega
theorem plan_size (n : Nat) (l : List UInt8) : ∀ m, plGo n l = some m → l.length + m ≤ 2 * cntAll l n := by
  refine snoc_ind (P := fun l => ∀ m, plGo n l = some m → l.length + m ≤ 2 * cntAll l n) ?_ ?_ l
  · intro m h
    have : m = 0 := by simpa [plGo] using h.symm
    subst this; simp
  · intro l c ih m h
    rw [plGo_snoc] at h
    cases hp : plGo n l with
    | none => rw [hp] at h; cases h
    | some k =>
      rw [hp] at h
      have hk := ih k hp
      unfold plStep at h
      by_cases hc : c = 47
      · simp only [hc, if_true] at h
        by_cases hz : k = 0
        · rw [if_pos hz] at h; cases h
        · rw [if_neg hz] at h
          cases h
          rw [cntAll_slash hc, List.length_append]; simp; omega
      · simp only [hc, if_false] at h
        by_cases hb : c.toNat < 49 ∨ n < c.toNat - 48
        · rw [if_pos hb] at h; cases h
        · rw [if_neg hb] at h
          cases h
          have := cntAll_stop (l := l) (c := c) n (by omega) (by omega)
          rw [List.length_append]; simp; omega
theorem cntAll_le {l : List UInt8} {n : Nat} (h : ∀ d, d < n → cntS l (d + 1) ≤ 1) : cntAll l n ≤ n := by
  induction n with
  | zero => exact Nat.le_refl _
  | succ n ih => unfold cntAll; have := ih (fun d hd => h d (by omega)); have := h n (by omega); omega
theorem fine_size {n : Nat} {l : List UInt8} (h : textFaultS n l = 0) : l.length ≤ 2 * n ∧ isPlanS n l = true ∧ ∀ d, d < n → cntS l (d + 1) = 1 := by
  unfold textFaultS at h
  by_cases hp : isPlanS n l = false
  · rw [if_pos hp] at h; cases h
  rw [if_neg hp] at h
  by_cases h6 : (List.range n).any (fun d => decide (1 < cntS l (d + 1))) = true
  · rw [if_pos h6] at h; cases h
  rw [if_neg h6] at h
  by_cases h7 : (List.range n).any (fun d => decide (cntS l (d + 1) = 0)) = true
  · rw [if_pos h7] at h; cases h
  have hle : ∀ d, d < n → cntS l (d + 1) ≤ 1 := fun d hd => by
    by_cases hh : 1 < cntS l (d + 1)
    · exact absurd (List.any_eq_true.2 ⟨d, by simpa using hd, by simpa using hh⟩) h6
    · omega
  have hpt : isPlanS n l = true := by simpa using hp
  refine ⟨?_, hpt, fun d hd => ?_⟩
  · unfold isPlanS at hpt
    cases hg : plGo n l with
    | none => rw [hg] at hpt; cases hpt
    | some m => have := plan_size n l m hg; have := cntAll_le hle; omega
  · have h1 := hle d hd
    by_cases h0 : cntS l (d + 1) = 0
    · exact absurd (List.any_eq_true.2 ⟨d, by simpa using hd, by simpa using h0⟩) h7
    · omega
end Go.Proofs.YtebinaopncclgaaGreatDoor
namespace Go.Proofs.YtebinaopncclgaaGreatDoor

def Shape (n k : Nat) (r : List Int) : Prop := ∃ mid : List Int, r = 0 :: (mid ++ [0]) ∧ mid.length ≤ k ∧ ∀ x ∈ mid, 1 ≤ x ∧ x ≤ n
theorem Shape.mono {n k k' : Nat} {r : List Int} (h : Shape n k r) (hk : k ≤ k') : Shape n k' r := by
  obtain ⟨mid, h1, h2, h3⟩ := h; exact ⟨mid, h1, by omega, h3⟩
theorem rtGo_shape (n : Nat) (l : List UInt8) : (∀ c ∈ l, c = 47 ∨ (49 ≤ c.toNat ∧ c.toNat - 48 ≤ n)) → (∀ r ∈ (rtGo l).1, Shape n l.length r) ∧ ∃ mid : List Int, (rtGo l).2 = 0 :: mid ∧ mid.length ≤ l.length ∧ ∀ x ∈ mid, 1 ≤ x ∧ x ≤ (n : Int) := by
  refine snoc_ind (P := fun l => (∀ c ∈ l, c = 47 ∨ (49 ≤ c.toNat ∧ c.toNat - 48 ≤ n)) → (∀ r ∈ (rtGo l).1, Shape n l.length r) ∧ ∃ mid : List Int, (rtGo l).2 = 0 :: mid ∧ mid.length ≤ l.length ∧ ∀ x ∈ mid, 1 ≤ x ∧ x ≤ (n : Int)) ?_ ?_ l
  · intro _; exact ⟨by simp [rtGo], [], rfl, Nat.le_refl _, by simp⟩
  · intro l c ih hb
    obtain ⟨h1, mid, h2, h3, h4⟩ := ih (fun x hx => hb x (by simp [hx]))
    rw [rtGo_snoc]
    unfold rtStep
    by_cases hc : c = 47
    · rw [if_pos hc]
      refine ⟨fun r hr => ?_, [], rfl, by simp, by simp⟩
      rcases List.mem_append.1 hr with h | h
      · exact (h1 r h).mono (by simp)
      · have : r = (rtGo l).2 ++ [0] := by simpa using h
        exact ⟨mid, by rw [this, h2]; rfl, by simp; omega, h4⟩
    · rw [if_neg hc]
      have hcb : 49 ≤ c.toNat ∧ c.toNat - 48 ≤ n := by
        rcases hb c (by simp) with h | h
        · exact absurd h hc
        · exact h
      refine ⟨fun r hr => (h1 r hr).mono (by simp), mid ++ [(c.toNat : Int) - 48], by show (rtGo l).2 ++ _ = _; rw [h2]; rfl, by simp; omega, fun x hx => ?_⟩
      rcases List.mem_append.1 hx with h | h
      · exact h4 x h
      · have : x = (c.toNat : Int) - 48 := by simpa using h
        omega
theorem plan_bytes {n : Nat} {l : List UInt8} (h : isPlanS n l = true) : ∀ c ∈ l, c = 47 ∨ (49 ≤ c.toNat ∧ c.toNat - 48 ≤ n) := by
  intro c hc
  obtain ⟨k, hk, rfl⟩ := List.mem_iff_getElem.1 hc
  exact plan_byte h hk
theorem routes_shape {n : Nat} {l : List UInt8} (h : isPlanS n l = true) : ∀ r ∈ routesS l, Shape n l.length r := by
  obtain ⟨h1, mid, h2, h3, h4⟩ := rtGo_shape n l (plan_bytes h)
  intro r hr
  unfold routesS at hr
  by_cases hn : l = []
  · rw [if_pos hn] at hr; simp at hr
  · rw [if_neg hn] at hr
    rcases List.mem_append.1 hr with h | h
    · exact h1 r h
    · have : r = (rtGo l).2 ++ [0] := by simpa using h
      exact ⟨mid, by rw [this, h2]; rfl, h3, h4⟩
theorem Shape.sites {n k : Nat} {r : List Int} (h : Shape n k r) : r.length ≤ k + 2 ∧ (∀ x ∈ r, 0 ≤ x ∧ x < n + 1) ∧ ∀ j, j + 2 < r.length → r.getD (j + 1) 0 ≠ 0 := by
  obtain ⟨mid, rfl, h2, h3⟩ := h
  refine ⟨by simp; omega, fun x hx => ?_, fun j hj => ?_⟩
  · rcases List.mem_cons.1 hx with h | h
    · omega
    · rcases List.mem_append.1 h with h | h
      · have := h3 x h; omega
      · have : x = 0 := by simpa using h
        omega
  · have hjm : j < mid.length := by simp at hj; omega
    have e : (0 :: (mid ++ [0])).getD (j + 1) 0 = mid[j] := by
      rw [List.getD_cons_succ, List.getD_eq_getElem?_getD, List.getElem?_append_left hjm, List.getElem?_eq_getElem hjm]; rfl
    rw [e]
    have := h3 mid[j] (List.getElem_mem _)
    omega
theorem routes_count (l : List UInt8) : (routesS l).length ≤ l.length + 1 := by
  have := (rtGo_len l).1
  unfold routesS
  by_cases hn : l = []
  · rw [if_pos hn]; simp
  · rw [if_neg hn]; simp; omega
theorem Shape.times {n k : Nat} {r : Rd} {l : List Int} (h : Shape n k l) (hc : 0 ≤ r.close) (D : Nat → Nat → Int) (S : List Int) : timeN r D l S = timeS r D l S := by
  have h3 := h.sites.2.2
  obtain ⟨mid, rfl, h2, _⟩ := h
  refine timeN_route r D _ S hc (by simp) rfl ?_ h3
  rw [show (0 :: (mid ++ [0])).length - 1 = mid.length + 1 by simp, List.getD_cons_succ, List.getD_eq_getElem?_getD, List.getElem?_append_right (Nat.le_refl _)]
  simp
end Go.Proofs.YtebinaopncclgaaGreatDoor
namespace Go.Proofs.YtebinaopncclgaaGreatDoor
open Go.RowKit Go.IntWalk

theorem StR.below {w w' : World} {v : Value} {r : Rd} (h : StR w v r) (hb : Below w.heap.size w w') : StR w' v r := by
  obtain ⟨ao, c, h1, h2⟩ := h
  refine ⟨ao, c, h1, fun i hi => ?_⟩
  obtain ⟨g, k1, k2, k3⟩ := h2 i hi
  exact ⟨g, k1, Nat.lt_of_lt_of_le k2 hb.size, fun j z hj hz => (hb.cell (by exact k2)).trans (k3 j z hj hz)⟩
/- an area, read -/
structure AreaAt (w : World) (p : Nat) (r : Rd) (D : Nat → Nat → Int) (vs vf : Value) : Prop where
  lt : p < w.heap.size
  c0 : w.cell? ⟨p, 0, none⟩ = some (.int .i64 r.vans)
  c1 : w.cell? ⟨p, 1, none⟩ = some (.int .i64 r.load)
  c2 : w.cell? ⟨p, 2, none⟩ = some (.int .i64 r.close)
  c5 : w.cell? ⟨p, 5, none⟩ = some vs
  c7 : w.cell? ⟨p, 7, none⟩ = some vf
  st : StR w vs r
  fr : SqR w vf (r.stops.length + 1) D
theorem AreaAt.below {w w' : World} {p : Nat} {r : Rd} {D : Nat → Nat → Int} {vs vf : Value} (h : AreaAt w p r D vs vf) (hb : Below w.heap.size w w') : AreaAt w' p r D vs vf :=
  ⟨Nat.lt_of_lt_of_le h.lt hb.size, (hb.cell (by exact h.lt)).trans h.c0, (hb.cell (by exact h.lt)).trans h.c1, (hb.cell (by exact h.lt)).trans h.c2, (hb.cell (by exact h.lt)).trans h.c5, (hb.cell (by exact h.lt)).trans h.c7, h.st.below hb, h.fr.below hb⟩
def judgeS (r : Rd) (D : Nat → Nat → Int) (l : List UInt8) : Int × Option (List Int) × Int :=
  if textFaultS r.stops.length l ≠ 0 then (0, none, textFaultS r.stops.length l)
  else if r.vans < ((routesS l).length : Int) then (0, none, 8)
  else if (routesS l).all (loadOk r) = false then (0, none, 9)
  else if (routesS l).all (wayOk D) = false then (0, none, 10)
  else match timesS r D (routesS l) (List.replicate r.stops.length 0) with
    | none => (0, none, 11)
    | some S => (lenTo D (routesS l), some S, 0)
def JudgeLeft (w : World) (n : Nat) (x : Int × Option (List Int) × Int) (e : Ending) (w' : World) : Prop :=
  ∃ v, e = .returned (.tuple #[.int .i64 x.1, v, .int .i64 x.2.2]) ∧ (x.2.1 = none → v = .slice none 0 0) ∧ (∀ S, x.2.1 = some S → w'.ownsRow w.heap.size 3 1 v n (ints S) ∧ S.length = n ∧ v ≠ .slice none 0 0) ∧ Below w.heap.size w w'

set_option maxRecDepth 100000 in
set_option maxHeartbeats 4000000 in
theorem ajudge_any (p : Nat) (r : Rd) (D : Nat → Nat → Int) (s : ByteArray) (vs vf : Value) (w : World) (hs : s.size ≤ maxLen) (hok : RdOk r) (ha : AreaAt w p r D vs vf) (hD : ∀ a b, a < r.stops.length + 1 → b < r.stops.length + 1 → -1 ≤ D a b ∧ D a b ≤ 40960000) :
    Calls Tryz.prog 72 #[.pointer (some ⟨p, 0, none⟩), .string s] w (JudgeLeft w r.stops.length (judgeS r D s.data.toList)) := by
  obtain ⟨i0, hi, hz0, hz1, hz2⟩ := info_parts Tryz.infoInt
  have hn7 := hok.nstops
  have HC1 := hid (textFault_any r.stops.length s w hn7 hs)
  obtain ⟨aos, cps, hvs, _⟩ := ha.st
  subst hvs
  have h5 := ha.c5
  have hpw := ha.lt
  have HA := hid ha
  have HOK := hid hok
  have HD := hid hD
  clear ha hok hD
  by_cases hf : textFaultS r.stops.length s.data.toList ≠ 0
  · have HF : Hid (judgeS r D s.data.toList = (0, none, textFaultS r.stops.length s.data.toList)) := by show _ = _; unfold judgeS; rw [if_pos hf]
    rw [HF.out]
    generalize textFaultS r.stops.length s.data.toList = f at *
    have e1 : (f != 0) = true := by simpa using hf
    go_enter Tryz.func72, Tryz.ntmps72
    go_wp2_with (first
      | (go_at_call 124; refine HC1.out.mono ?_; rintro e1 w1 ⟨rfl, hb1⟩)
      | go_in)
    go_ret3
    exact ⟨_, rfl, fun _ => rfl, fun S e => (by cases e), hb1⟩
  · have hf0 : textFaultS r.stops.length s.data.toList = 0 := by omega
    have HCLO : Hid (0 ≤ r.close) := by
      have := HOK.out.head
      simp only [headOk, Bool.and_eq_true, fit_iff, decide_eq_true_eq] at this
      show _ ≤ _
      omega
    obtain ⟨hsz, hpl, _⟩ := fine_size hf0
    have hsz2 : s.size ≤ 14 := by have : s.data.toList.length = s.size := by simp
                                  omega
    have HC2 : Hid (∀ W, Calls Tryz.prog 125 #[.string s] W fun e w' => ∃ v vs, e = .returned v ∧ Rts w' W.heap.size w'.heap.size v (routesS s.data.toList) vs ∧ Below W.heap.size W w') := fun W => routes_any s W (by omega) (fun k hk => by
      rcases plan_byte hpl (k := k) (by simpa using hk) with h | h
      · exact .inl h
      · exact .inr h.1)
    have hcount : (routesS s.data.toList).length ≤ 1000 := by have h1 := routes_count s.data.toList; have : s.data.toList.length = s.size := by simp
                                                              omega
    have HSH : Hid (∀ l ∈ routesS s.data.toList, l.length ≤ 1000 ∧ (∀ x ∈ l, 0 ≤ x ∧ x < ((r.stops.length : Nat) : Int) + 1) ∧ ∀ j, j + 2 < l.length → l.getD (j + 1) 0 ≠ 0) := fun l hl => by
      have h1 := (routes_shape hpl l hl).sites
      have : s.data.toList.length = s.size := by simp
      exact ⟨by omega, h1.2.1, h1.2.2⟩
    have HTE : Hid (∀ S, timesN r D (routesS s.data.toList) S = timesS r D (routesS s.data.toList) S) := fun S => timesN_same S fun l hl S => (routes_shape hpl l hl).times HCLO.out D S
    rw [hf0] at HC1
    have HJ : Hid (judgeS r D s.data.toList = if r.vans < ((routesS s.data.toList).length : Int) then ((0 : Int), (none : Option (List Int)), (8 : Int)) else if (routesS s.data.toList).all (loadOk r) = false then (0, none, 9) else if (routesS s.data.toList).all (wayOk D) = false then (0, none, 10)
      else match timesS r D (routesS s.data.toList) (List.replicate r.stops.length 0) with
        | none => (0, none, 11)
        | some S => (lenTo D (routesS s.data.toList), some S, 0)) := by show _ = _; unfold judgeS; rw [if_neg hf]
    generalize routesS s.data.toList = L at *
    clear hsz hpl hf hf0
    have HC3 : Hid (∀ W v, Below w.heap.size w W → RtR W v L → Calls Tryz.prog 126 #[.pointer (some ⟨p, 0, none⟩), v] W fun e w' => e = .returned (.bool (L.all (loadOk r))) ∧ Below W.heap.size W w') := fun W v hW hv => by
      have hA := HA.out.below hW
      exact allLoad_any p r L _ v W hA.lt HOK.out hA.c1 hA.c5 hA.st hv (fun l hl => ⟨(HSH.out l hl).1, (HSH.out l hl).2.1⟩)
    have HC4 : Hid (∀ W v, Below w.heap.size w W → RtR W v L → Calls Tryz.prog 127 #[.pointer (some ⟨p, 0, none⟩), v] W fun e w' => e = .returned (.bool (L.all (wayOk D))) ∧ Below W.heap.size W w') := fun W v hW hv => by
      have hA := HA.out.below hW
      exact allHaveWays_any p (r.stops.length + 1) D L _ v W hA.lt hA.c7 hA.fr hv (fun l hl => ⟨(HSH.out l hl).1, by have := (HSH.out l hl).2.1; intro x hx; have := this x hx; omega⟩)
    have HC6 : Hid (∀ W v, Below w.heap.size w W → RtR W v L → Calls Tryz.prog 129 #[.pointer (some ⟨p, 0, none⟩), v] W fun e w' => e = .returned (.int .i64 (lenTo D L)) ∧ Below W.heap.size W w') := fun W v hW hv => by
      have hA := HA.out.below hW
      exact length_any p (r.stops.length + 1) D L _ v W hA.lt hA.c7 hA.fr HD.out hv (fun l hl => ⟨(HSH.out l hl).1, by have := (HSH.out l hl).2.1; intro x hx; have := this x hx; omega⟩)
    have HC5 : Hid (∀ W W1 v, Below w.heap.size w W → RtR W v L → Below W.heap.size W W1 → W1.ownsRow W.heap.size 3 1 (.slice (some ⟨W.heap.size, 0, none⟩) r.stops.length r.stops.length) r.stops.length (ints (List.replicate r.stops.length 0)) → Calls Tryz.prog 128 #[.pointer (some ⟨p, 0, none⟩), v, .slice (some ⟨W.heap.size, 0, none⟩) r.stops.length r.stops.length] W1 fun e w' =>
      e = .returned (.bool (timesS r D L (List.replicate r.stops.length 0)).isSome) ∧ Below W.heap.size W w' ∧ ∃ S, S.length = r.stops.length ∧ (∀ S', timesS r D L (List.replicate r.stops.length 0) = some S' → S = S') ∧ w'.ownsRow W.heap.size 3 1 (.slice (some ⟨W.heap.size, 0, none⟩) r.stops.length r.stops.length) r.stops.length (ints S)) := fun W W1 v hW hv hW1 ho => by
      have hA := HA.out.below hW
      rw [← HTE.out]
      exact allInTime_any p r D L _ _ _ v W W1 hW1 hA.lt HOK.out hA.c2 hA.c5 hA.st hA.c7 hA.fr HD.out hv (fun l hl => ⟨(HSH.out l hl).1, (HSH.out l hl).2.1⟩) (by simp) ho
    have HVN : Hid (0 ≤ r.vans ∧ r.vans ≤ 10000) := by
      have := HOK.out.head
      simp only [headOk, Bool.and_eq_true, fit_iff, decide_eq_true_eq] at this
      show _ ∧ _
      omega
    generalize L.all (loadOk r) = bl at *
    generalize L.all (wayOk D) = bw at *
    generalize timesS r D L (List.replicate r.stops.length 0) = ts at *
    generalize lenTo D L = cost at *
    generalize judgeS r D s.data.toList = J at *
    have hvn := HVN.out
    by_cases hv : r.vans < (L.length : Int)
    · rw [if_pos hv] at HJ
      rw [HJ.out]
      go_enter Tryz.func72, Tryz.ntmps72
      go_wp2_with (first
        | (go_at_call 124; refine HC1.out.mono ?_; rintro e1 w1 ⟨rfl, hb1⟩)
        | (go_at_call 125; refine (HC2.out _).mono ?_; rintro e2 w2 ⟨v2, vs2, rfl, hr2, hb2⟩; have HR2 := hid (hr2.read hcount); have HB2 := hid (hb1.trans (hb2.mono hb1.size)); obtain ⟨al, cl, rfl, _⟩ := hr2.read hcount; have d0 := (HA.out.below HB2.out).c0; have hpw2 := (HA.out.below HB2.out).lt; clear hr2)
        | go_in)
      go_ret3
      exact ⟨_, rfl, fun _ => rfl, fun S e => (by cases e), HB2.out⟩
    rw [if_neg hv] at HJ
    cases bl
    · rw [if_pos rfl] at HJ
      rw [HJ.out]
      go_enter Tryz.func72, Tryz.ntmps72
      go_wp2_with (first
        | (go_at_call 124; refine HC1.out.mono ?_; rintro e1 w1 ⟨rfl, hb1⟩)
        | (go_at_call 125; refine (HC2.out _).mono ?_; rintro e2 w2 ⟨v2, vs2, rfl, hr2, hb2⟩; have HR2 := hid (hr2.read hcount); have HB2 := hid (hb1.trans (hb2.mono hb1.size)); obtain ⟨al, cl, rfl, _⟩ := hr2.read hcount; have d0 := (HA.out.below HB2.out).c0; have hpw2 := (HA.out.below HB2.out).lt; clear hr2)
        | (go_at_call 126; refine (HC3.out _ _ HB2.out HR2.out).mono ?_; rintro e3 w3 ⟨rfl, hb3⟩)
        | go_in)
      go_ret3
      exact ⟨_, rfl, fun _ => rfl, fun S e => (by cases e), HB2.out.trans (hb3.mono HB2.out.size)⟩
    rw [if_neg (by simp)] at HJ
    cases bw
    · rw [if_pos rfl] at HJ
      rw [HJ.out]
      go_enter Tryz.func72, Tryz.ntmps72
      go_wp2_with (first
        | (go_at_call 124; refine HC1.out.mono ?_; rintro e1 w1 ⟨rfl, hb1⟩)
        | (go_at_call 125; refine (HC2.out _).mono ?_; rintro e2 w2 ⟨v2, vs2, rfl, hr2, hb2⟩; have HR2 := hid (hr2.read hcount); have HB2 := hid (hb1.trans (hb2.mono hb1.size)); obtain ⟨al, cl, rfl, _⟩ := hr2.read hcount; have d0 := (HA.out.below HB2.out).c0; have hpw2 := (HA.out.below HB2.out).lt; clear hr2)
        | (go_at_call 126; refine (HC3.out _ _ HB2.out HR2.out).mono ?_; rintro e3 w3 ⟨rfl, hb3⟩)
        | (go_at_call 127; refine (HC4.out _ _ (HB2.out.trans (hb3.mono HB2.out.size)) (HR2.out.below hb3)).mono ?_; rintro e4 w4 ⟨rfl, hb4⟩; have HB4 := hid ((HB2.out.trans (hb3.mono HB2.out.size)).trans (hb4.mono (Nat.le_trans HB2.out.size hb3.size))); have HR4 := hid ((HR2.out.below hb3).below hb4); have d5 := (HA.out.below HB4.out).c5; have hpw4 := (HA.out.below HB4.out).lt)
        | go_in)
      go_ret3
      exact ⟨_, rfl, fun _ => rfl, fun S e => (by cases e), HB4.out⟩
    rw [if_neg (by simp)] at HJ
    go_enter Tryz.func72, Tryz.ntmps72
    go_wp2_with (first
      | (go_at_call 124; refine HC1.out.mono ?_; rintro e1 w1 ⟨rfl, hb1⟩)
      | (go_at_call 125; refine (HC2.out _).mono ?_; rintro e2 w2 ⟨v2, vs2, rfl, hr2, hb2⟩; have HR2 := hid (hr2.read hcount); have HB2 := hid (hb1.trans (hb2.mono hb1.size)); obtain ⟨al, cl, rfl, _⟩ := hr2.read hcount; have d0 := (HA.out.below HB2.out).c0; have hpw2 := (HA.out.below HB2.out).lt; clear hr2)
      | (go_at_call 126; refine (HC3.out _ _ HB2.out HR2.out).mono ?_; rintro e3 w3 ⟨rfl, hb3⟩)
      | (go_at_call 127; refine (HC4.out _ _ (HB2.out.trans (hb3.mono HB2.out.size)) (HR2.out.below hb3)).mono ?_; rintro e4 w4 ⟨rfl, hb4⟩; have HB4 := hid ((HB2.out.trans (hb3.mono HB2.out.size)).trans (hb4.mono (Nat.le_trans HB2.out.size hb3.size))); have HR4 := hid ((HR2.out.below hb3).below hb4); have d5 := (HA.out.below HB4.out).c5; have hpw4 := (HA.out.below HB4.out).lt)
      | (at_make; refine wpList_make_full _ rfl _ _ 53 rfl w4.heap.size 3 i0 (.int .i64 0) 1 Tryz.underlying53 hi hz0 hz1 .i64 .i64 _ _ r.stops.length rfl rfl ?m1 ?m2 ?m3 ?m4 ?m5 ?_)
      | go_in)
    case m1 => rfl
    case m2 => rfl
    case m3 => rw [hz2]; omega
    case m4 => unfold maxLen; omega
    case m5 => exact Nat.le_refl _
    intro w5 hown5 hgr5
    have hb5 : Below w4.heap.size w4 w5 := (Below.refl _ _).grown hgr5 (Nat.le_refl _) (by simp)
    have ho5 : w5.ownsRow w4.heap.size 3 1 (.slice (some ⟨w4.heap.size, 0, none⟩) r.stops.length r.stops.length) r.stops.length (ints (List.replicate r.stops.length 0)) := by
      have e : (madeCells #[Value.int IntKind.i64 0] r.stops.length).toList = ints (List.replicate r.stops.length 0) := by rw [toList_madeCells_one]; simp [ints]
      rw [← e]; exact hown5
    have HC7 := hid (HC5.out w4 w5 _ HB4.out HR4.out hb5 ho5)
    clear hown5 hgr5
    cases ts with
    | none =>
      have HJ2 : Hid (J = (0, none, 11)) := HJ.out
      go_wp2_with (go_at_call 128; refine HC7.out.mono ?_; rintro e6 w6 ⟨rfl, hb6, S6, hs6, hq6, ho6⟩)
      go_ret3
      rw [HJ2.out]
      exact ⟨_, rfl, fun _ => rfl, fun S e => (by cases e), HB4.out.trans (hb6.mono HB4.out.size)⟩
    | some S =>
      have HJ2 : Hid (J = (cost, some S, 0)) := HJ.out
      go_wp2_with (first
        | (go_at_call 128; refine HC7.out.mono ?_; rintro e6 w6 ⟨rfl, hb6, S6, hs6, hq6, ho6⟩)
        | (go_at_call 129; refine (HC6.out _ _ (HB4.out.trans (hb6.mono HB4.out.size)) (HR4.out.below hb6)).mono ?_; rintro e7 w7 ⟨rfl, hb7⟩))
      go_ret3
      rw [HJ2.out]
      refine ⟨_, rfl, fun e => (by cases e), fun S' e => ?_, (HB4.out.trans (hb6.mono HB4.out.size)).trans (hb7.mono (Nat.le_trans HB4.out.size hb6.size))⟩
      cases e
      have := hq6 S rfl
      subst this
      exact ⟨own_base (own_below ho6 hb7) HB4.out.size, hs6, by simp⟩
end Go.Proofs.YtebinaopncclgaaGreatDoor
