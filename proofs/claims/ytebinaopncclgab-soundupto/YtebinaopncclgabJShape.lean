/- Plain: the shape of a plan's routes. -/
import Derived.Test.YtebinaopncclgabJTime
import Derived.Test.YtebinaopncclgabJText
namespace Go.Proofs.Ytebinaopncclgab
open Go.RowKit Go.IntWalk

def timesS (r : Rd) (D : Nat → Nat → Int) (L : List (List Int)) (S : List Int) : Option (List Int) := L.foldl (fun st l => st.bind (timeS r D l)) (some S)
def timesN (r : Rd) (D : Nat → Nat → Int) (L : List (List Int)) (S : List Int) : Option (List Int) := L.foldl (fun st l => st.bind (timeN r D l)) (some S)
theorem timesN_same {r : Rd} {D : Nat → Nat → Int} {L : List (List Int)} (S : List Int) (h : ∀ l ∈ L, ∀ S, timeN r D l S = timeS r D l S) : timesN r D L S = timesS r D L S := by
  unfold timesN timesS
  suffices key : ∀ (L : List (List Int)) (st : Option (List Int)), (∀ l ∈ L, ∀ S, timeN r D l S = timeS r D l S) → L.foldl (fun st l => st.bind (timeN r D l)) st = L.foldl (fun st l => st.bind (timeS r D l)) st from key L _ h
  intro L
  induction L with
  | nil => intro st _; rfl
  | cons l L ih =>
    intro st h
    rw [List.foldl_cons, List.foldl_cons, ih _ (fun l hl => h l (by simp [hl])), show timeN r D l = timeS r D l from funext (h l (by simp))]
theorem timesS_snoc (r : Rd) (D : Nat → Nat → Int) (L : List (List Int)) (l S : List Int) : timesS r D (L ++ [l]) S = (timesS r D L S).bind (timeS r D l) := by simp [timesS]
theorem timesS_none (r : Rd) (D : Nat → Nat → Int) (L M : List (List Int)) (S : List Int) (h : timesS r D L S = none) : timesS r D (L ++ M) S = none := by
  have key : ∀ M : List (List Int), M.foldl (fun st l => st.bind (timeS r D l)) none = none := by
    intro M; induction M with
    | nil => rfl
    | cons x M ih => simpa using ih
  unfold timesS at h ⊢
  rw [List.foldl_append, h, key]
theorem timesN_snoc (r : Rd) (D : Nat → Nat → Int) (L : List (List Int)) (l S : List Int) : timesN r D (L ++ [l]) S = (timesN r D L S).bind (timeN r D l) := by simp [timesN]
theorem timesN_none (r : Rd) (D : Nat → Nat → Int) (L M : List (List Int)) (S : List Int) (h : timesN r D L S = none) : timesN r D (L ++ M) S = none := by
  have key : ∀ M : List (List Int), M.foldl (fun st l => st.bind (timeN r D l)) none = none := by
    intro M; induction M with
    | nil => rfl
    | cons x M ih => simpa using ih
  unfold timesN at h ⊢
  rw [List.foldl_append, h, key]

set_option maxRecDepth 100000 in
set_option maxHeartbeats 4000000 in
theorem allInTime_any (p : Nat) (r : Rd) (D : Nat → Nat → Int) (L : List (List Int)) (S0 : List Int) (vf vs v : Value) (w0 w : World) (hB : Below w0.heap.size w0 w) (hp : p < w0.heap.size) (hok : RdOk r) (h2 : w0.cell? ⟨p, 2, none⟩ = some (.int .i64 r.close)) (h5 : w0.cell? ⟨p, 5, none⟩ = some vs) (hs : StR w0 vs r)
    (h7 : w0.cell? ⟨p, 7, none⟩ = some vf) (hq : SqR w0 vf (r.stops.length + 1) D) (hD : ∀ a b, a < r.stops.length + 1 → b < r.stops.length + 1 → -1 ≤ D a b ∧ D a b ≤ 40960000)
    (hr : RtR w0 v L) (hx : ∀ l ∈ L, l.length ≤ 1000 ∧ ∀ x ∈ l, 0 ≤ x ∧ x < r.stops.length + 1)
    (hS : S0.length = r.stops.length) (hown : w.ownsRow w0.heap.size 3 1 (.slice (some ⟨w0.heap.size, 0, none⟩) r.stops.length r.stops.length) r.stops.length (ints S0)) :
    Calls Try.prog 56 #[.pointer (some ⟨p, 0, none⟩), v, .slice (some ⟨w0.heap.size, 0, none⟩) r.stops.length r.stops.length] w fun e w' =>
      e = .returned (.bool (timesN r D L S0).isSome) ∧ Below w0.heap.size w0 w' ∧ ∃ S, S.length = r.stops.length ∧ (∀ S', timesN r D L S0 = some S' → S = S') ∧ w'.ownsRow w0.heap.size 3 1 (.slice (some ⟨w0.heap.size, 0, none⟩) r.stops.length r.stops.length) r.stops.length (ints S) := by
  obtain ⟨ao, co, rfl, hL, hrt⟩ := hr
  have HIT : Hid (∀ (gi ci : Nat) (l S : List Int) (W : World), Below w0.heap.size w0 W → gi < w0.heap.size → (∀ j (hj : j < l.length), w0.cell? ⟨gi, j, none⟩ = some (.int .i64 l[j])) → l ∈ L → S.length = r.stops.length → W.ownsRow w0.heap.size 3 1 (.slice (some ⟨w0.heap.size, 0, none⟩) r.stops.length r.stops.length) r.stops.length (ints S) →
      Calls Try.prog 67 #[.pointer (some ⟨p, 0, none⟩), .slice (some ⟨gi, 0, none⟩) l.length ci, .slice (some ⟨w0.heap.size, 0, none⟩) r.stops.length r.stops.length] W fun e w' =>
        e = .returned (.bool (timeN r D l S).isSome) ∧ Below w0.heap.size w0 w' ∧ ∃ S1, S1.length = r.stops.length ∧ (∀ S', timeN r D l S = some S' → S1 = S') ∧ w'.ownsRow w0.heap.size 3 1 (.slice (some ⟨w0.heap.size, 0, none⟩) r.stops.length r.stops.length) r.stops.length (ints S1)) :=
    fun gi ci l S W hW hg hrow hm hl ho => inTime_any p gi ci r D l S vf vs w0 W hW hp hok h2 h5 hs h7 hq hD hg hrow (hx l hm).1 (hx l hm).2 hl ho
  have hn7 := hok.nstops
  have HRT := hid hrt
  have HO := hid hown
  have HB := hid hB
  clear hrt hx hok hD hown hB hs hq h2 h5 h7
  go_enter Try.func56, Try.ntmps56
  go_wp2_with fail
  go_loopw [7] (fun i wr => ∃ (a : Nat) (S : List Int), a ≤ L.length ∧ i = .int .i64 a ∧ S.length = r.stops.length ∧ Hid (timesN r D (L.take a) S0 = some S) ∧ Hid (wr.ownsRow w0.heap.size 3 1 (.slice (some ⟨w0.heap.size, 0, none⟩) r.stops.length r.stops.length) r.stops.length (ints S)) ∧ Hid (Below w0.heap.size w0 wr)) (fun i _ => L.length - (intOf i).toNat)
  case atStart => exact ⟨0, S0, Nat.zero_le _, rfl, hS, rfl, HO, HB⟩
  case round =>
    clear HB HO
    obtain ⟨a, S, ha, rfl, hSl, HA, HO, HB⟩ := hrel
    by_cases hlt : a < L.length
    · obtain ⟨g, gi, ci, rfl, hg, hc, hgi, hrow⟩ := HRT.out a hlt
      obtain ⟨l, hl⟩ : ∃ l, l = L[a] := ⟨_, rfl⟩
      have HC := HIT.out gi ci l S wr HB.out hgi (by intro j hj; subst hl; exact hrow j hj) (by rw [hl]; exact List.getElem_mem _) hSl HO.out
      have HCC := hid HC
      rw [← hl] at hc
      have hc : wr.cell? ⟨g, a, none⟩ = _ := (HB.out.cell (by exact hg)).trans hc
      have hgw : g < wr.heap.size := Nat.lt_of_lt_of_le hg HB.out.size
      have HT : Hid (timesN r D (L.take (a + 1)) S0 = timeN r D l S) := by
        show _ = _
        rw [List.take_succ_eq_append_getElem hlt, timesN_snoc, HA.out, ← hl]; rfl
      clear HC hrow hl
      cases hv : timeN r D l S with
      | none =>
        have HF : Hid (timesN r D L S0 = none) := by
          have h := timesN_none r D (L.take (a + 1)) (L.drop (a + 1)) S0 (by rw [HT.out, hv])
          rw [List.take_append_drop] at h; exact h
        rw [hv] at HCC
        go_wp2_with (go_at_call 67; refine HCC.out.mono ?_; rintro e1 w1 ⟨rfl, hb1, S1, hs1, _, ho1⟩)
        go_ret
        exact ⟨ret_bool (by rw [HF.out]; rfl), hb1, S1, hs1, fun S' e => (by rw [HF.out] at e; cases e), ho1⟩
      | some S2 =>
        have HN : Hid (timesN r D (L.take (a + 1)) S0 = some S2) := by show _ = _; rw [HT.out, hv]
        rw [hv] at HCC
        go_wp2_with (go_at_call 67; refine HCC.out.mono ?_; rintro e1 w1 ⟨rfl, hb1, S1, hs1, heq, ho1⟩)
        go_roundw
        case rel => exact ⟨a + 1, S1, by omega, by go_num, hs1, by show _ = _; rw [HN.out, heq S2 rfl], ho1, hb1⟩
        case measure => simp [intOf]; omega
    · have HF : Hid (timesN r D L S0 = some S) := by have := HA.out; rw [List.take_of_length_le (by omega)] at this; exact this
      go_wp2
      go_ret
      exact ⟨ret_bool (by rw [HF.out]; rfl), HB.out, S, hSl, fun S' e => (by rw [HF.out] at e; cases e; rfl), HO.out⟩
end Go.Proofs.Ytebinaopncclgab
namespace Go.Proofs.Ytebinaopncclgab

theorem snoc_ind {P : List UInt8 → Prop} (h0 : P []) (h1 : ∀ l c, P l → P (l ++ [c])) (l : List UInt8) : P l := by
  have key : ∀ n (l : List UInt8), l.length = n → P l := by
    intro n
    induction n with
    | zero => intro l h; rw [List.length_eq_zero_iff.1 h]; exact h0
    | succ n ih =>
      intro l h
      have hne : l ≠ [] := fun e => by rw [e] at h; simp at h
      rw [← List.dropLast_concat_getLast hne]
      exact h1 _ _ (ih _ (by simp [h]))
  exact key _ l rfl
/- how many stops stand in a text, all in all -/
def cntAll (l : List UInt8) : Nat → Nat
  | 0 => 0
  | n + 1 => cntAll l n + cntS l (n + 1)
theorem cntAll_slash {l : List UInt8} {c : UInt8} (hc : c = 47) (n : Nat) : cntAll (l ++ [c]) n = cntAll l n := by
  induction n with
  | zero => rfl
  | succ n ih => unfold cntAll; rw [ih, cnt_snoc, if_neg (by rw [hc]; show ¬ (47 = 48 + (n + 1)); omega)]; omega
theorem cntAll_other {l : List UInt8} {c : UInt8} (n : Nat) : cntAll l n ≤ cntAll (l ++ [c]) n := by
  induction n with
  | zero => exact Nat.le_refl _
  | succ n ih => unfold cntAll; rw [cnt_snoc]; omega
theorem cntAll_stop {l : List UInt8} {c : UInt8} (n : Nat) (h1 : 49 ≤ c.toNat) (h2 : c.toNat - 48 ≤ n) : cntAll l n + 1 ≤ cntAll (l ++ [c]) n := by
  induction n with
  | zero => omega
  | succ n ih =>
    unfold cntAll
    rw [cnt_snoc]
    by_cases h : c.toNat = 48 + (n + 1)
    · rw [if_pos h]; have := cntAll_other (l := l) (c := c) n; omega
    · rw [if_neg h]; have := ih (by omega); omega
theorem plan_size (n : Nat) (l : List UInt8) : ∀ m, plGo n l = some m → l.length + m ≤ 2 * cntAll l n := by
  refine snoc_ind (P := fun l => ∀ m, plGo n l = some m → l.length + m ≤ 2 * cntAll l n) ?_ ?_ l
  · intro m h
    have : m = 0 := by simpa [plGo] using h.symm
    subst this; simp
  · intro l c ih m h
    rw [plGo_snoc] at h
    cases hp : plGo n l with
    | none => rw [hp] at h; cases h
    | some k =>
      rw [hp] at h
      have hk := ih k hp
      unfold plStep at h
      by_cases hc : c = 47
      · simp only [hc, if_true] at h
        by_cases hz : k = 0
        · rw [if_pos hz] at h; cases h
        · rw [if_neg hz] at h
          cases h
          rw [cntAll_slash hc, List.length_append]; simp; omega
      · simp only [hc, if_false] at h
        by_cases hb : c.toNat < 49 ∨ n < c.toNat - 48
        · rw [if_pos hb] at h; cases h
        · rw [if_neg hb] at h
          cases h
          have := cntAll_stop (l := l) (c := c) n (by omega) (by omega)
          rw [List.length_append]; simp; omega
theorem cntAll_le {l : List UInt8} {n : Nat} (h : ∀ d, d < n → cntS l (d + 1) ≤ 1) : cntAll l n ≤ n := by
  induction n with
  | zero => exact Nat.le_refl _
  | succ n ih => unfold cntAll; have := ih (fun d hd => h d (by omega)); have := h n (by omega); omega
theorem fine_size {n : Nat} {l : List UInt8} (h : textFaultS n l = 0) : l.length ≤ 2 * n ∧ isPlanS n l = true ∧ ∀ d, d < n → cntS l (d + 1) = 1 := by
  unfold textFaultS at h
  by_cases hp : isPlanS n l = false
  · rw [if_pos hp] at h; cases h
  rw [if_neg hp] at h
  by_cases h6 : (List.range n).any (fun d => decide (1 < cntS l (d + 1))) = true
  · rw [if_pos h6] at h; cases h
  rw [if_neg h6] at h
  by_cases h7 : (List.range n).any (fun d => decide (cntS l (d + 1) = 0)) = true
  · rw [if_pos h7] at h; cases h
  have hle : ∀ d, d < n → cntS l (d + 1) ≤ 1 := fun d hd => by
    by_cases hh : 1 < cntS l (d + 1)
    · exact absurd (List.any_eq_true.2 ⟨d, by simpa using hd, by simpa using hh⟩) h6
    · omega
  have hpt : isPlanS n l = true := by simpa using hp
  refine ⟨?_, hpt, fun d hd => ?_⟩
  · unfold isPlanS at hpt
    cases hg : plGo n l with
    | none => rw [hg] at hpt; cases hpt
    | some m => have := plan_size n l m hg; have := cntAll_le hle; omega
  · have h1 := hle d hd
    by_cases h0 : cntS l (d + 1) = 0
    · exact absurd (List.any_eq_true.2 ⟨d, by simpa using hd, by simpa using h0⟩) h7
    · omega
end Go.Proofs.Ytebinaopncclgab
namespace Go.Proofs.Ytebinaopncclgab

def Shape (n k : Nat) (r : List Int) : Prop := ∃ mid : List Int, r = 0 :: (mid ++ [0]) ∧ mid.length ≤ k ∧ ∀ x ∈ mid, 1 ≤ x ∧ x ≤ n
theorem Shape.mono {n k k' : Nat} {r : List Int} (h : Shape n k r) (hk : k ≤ k') : Shape n k' r := by
  obtain ⟨mid, h1, h2, h3⟩ := h; exact ⟨mid, h1, by omega, h3⟩
theorem rtGo_shape (n : Nat) (l : List UInt8) : (∀ c ∈ l, c = 47 ∨ (49 ≤ c.toNat ∧ c.toNat - 48 ≤ n)) → (∀ r ∈ (rtGo l).1, Shape n l.length r) ∧ ∃ mid : List Int, (rtGo l).2 = 0 :: mid ∧ mid.length ≤ l.length ∧ ∀ x ∈ mid, 1 ≤ x ∧ x ≤ (n : Int) := by
  refine snoc_ind (P := fun l => (∀ c ∈ l, c = 47 ∨ (49 ≤ c.toNat ∧ c.toNat - 48 ≤ n)) → (∀ r ∈ (rtGo l).1, Shape n l.length r) ∧ ∃ mid : List Int, (rtGo l).2 = 0 :: mid ∧ mid.length ≤ l.length ∧ ∀ x ∈ mid, 1 ≤ x ∧ x ≤ (n : Int)) ?_ ?_ l
  · intro _; exact ⟨by simp [rtGo], [], rfl, Nat.le_refl _, by simp⟩
  · intro l c ih hb
    obtain ⟨h1, mid, h2, h3, h4⟩ := ih (fun x hx => hb x (by simp [hx]))
    rw [rtGo_snoc]
    unfold rtStep
    by_cases hc : c = 47
    · rw [if_pos hc]
      refine ⟨fun r hr => ?_, [], rfl, by simp, by simp⟩
      rcases List.mem_append.1 hr with h | h
      · exact (h1 r h).mono (by simp)
      · have : r = (rtGo l).2 ++ [0] := by simpa using h
        exact ⟨mid, by rw [this, h2]; rfl, by simp; omega, h4⟩
    · rw [if_neg hc]
      have hcb : 49 ≤ c.toNat ∧ c.toNat - 48 ≤ n := by
        rcases hb c (by simp) with h | h
        · exact absurd h hc
        · exact h
      refine ⟨fun r hr => (h1 r hr).mono (by simp), mid ++ [(c.toNat : Int) - 48], by show (rtGo l).2 ++ _ = _; rw [h2]; rfl, by simp; omega, fun x hx => ?_⟩
      rcases List.mem_append.1 hx with h | h
      · exact h4 x h
      · have : x = (c.toNat : Int) - 48 := by simpa using h
        omega
theorem plan_bytes {n : Nat} {l : List UInt8} (h : isPlanS n l = true) : ∀ c ∈ l, c = 47 ∨ (49 ≤ c.toNat ∧ c.toNat - 48 ≤ n) := by
  intro c hc
  obtain ⟨k, hk, rfl⟩ := List.mem_iff_getElem.1 hc
  exact plan_byte h hk
theorem routes_shape {n : Nat} {l : List UInt8} (h : isPlanS n l = true) : ∀ r ∈ routesS l, Shape n l.length r := by
  obtain ⟨h1, mid, h2, h3, h4⟩ := rtGo_shape n l (plan_bytes h)
  intro r hr
  unfold routesS at hr
  by_cases hn : l = []
  · rw [if_pos hn] at hr; simp at hr
  · rw [if_neg hn] at hr
    rcases List.mem_append.1 hr with h | h
    · exact h1 r h
    · have : r = (rtGo l).2 ++ [0] := by simpa using h
      exact ⟨mid, by rw [this, h2]; rfl, h3, h4⟩
theorem Shape.sites {n k : Nat} {r : List Int} (h : Shape n k r) : r.length ≤ k + 2 ∧ (∀ x ∈ r, 0 ≤ x ∧ x < n + 1) ∧ ∀ j, j + 2 < r.length → r.getD (j + 1) 0 ≠ 0 := by
  obtain ⟨mid, rfl, h2, h3⟩ := h
  refine ⟨by simp; omega, fun x hx => ?_, fun j hj => ?_⟩
  · rcases List.mem_cons.1 hx with h | h
    · omega
    · rcases List.mem_append.1 h with h | h
      · have := h3 x h; omega
      · have : x = 0 := by simpa using h
        omega
  · have hjm : j < mid.length := by simp at hj; omega
    have e : (0 :: (mid ++ [0])).getD (j + 1) 0 = mid[j] := by
      rw [List.getD_cons_succ, List.getD_eq_getElem?_getD, List.getElem?_append_left hjm, List.getElem?_eq_getElem hjm]; rfl
    rw [e]
    have := h3 mid[j] (List.getElem_mem _)
    omega
theorem routes_count (l : List UInt8) : (routesS l).length ≤ l.length + 1 := by
  have := (rtGo_len l).1
  unfold routesS
  by_cases hn : l = []
  · rw [if_pos hn]; simp
  · rw [if_neg hn]; simp; omega
theorem Shape.times {n k : Nat} {r : Rd} {l : List Int} (h : Shape n k l) (hc : 0 ≤ r.close) (D : Nat → Nat → Int) (S : List Int) : timeN r D l S = timeS r D l S := by
  have h3 := h.sites.2.2
  obtain ⟨mid, rfl, h2, _⟩ := h
  refine timeN_route r D _ S hc (by simp) rfl ?_ h3
  rw [show (0 :: (mid ++ [0])).length - 1 = mid.length + 1 by simp, List.getD_cons_succ, List.getD_eq_getElem?_getD, List.getElem?_append_right (Nat.le_refl _)]
  simp
end Go.Proofs.Ytebinaopncclgab
