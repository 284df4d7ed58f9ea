/- Walks: the legs of a plan as a text; some of them; the others. -/
import Derived.Test.YtebinaopncclgaaCCell
import Derived.Test.YtebinaopncclgaaCRead
import Derived.Test.YtebinaopncclgaaQUnder
import Derived.Test.YtebinaopncclgaaText
import Derived.Test.YtebinaopncclgaaFrame
namespace Go.Proofs.Ytebinaopncclgaa

/- the arcs of a text, the first k of them, each once -/
def arcsD (n : Nat) (l : List UInt8) : Nat → Option (List (List Int))
  | 0 => some []
  | k + 1 => match arcsD n l k with
    | none => none
    | some L => if isArcP n (arcX l (2 * k)) (arcX l (2 * k + 1)) ∧ [arcX l (2 * k), arcX l (2 * k + 1)] ∉ L then some (L ++ [[arcX l (2 * k), arcX l (2 * k + 1)]]) else none
theorem arcsD_none (n : Nat) (l : List UInt8) (k j : Nat) (h : arcsD n l k = none) : arcsD n l (k + j) = none := by
  induction j with
  | zero => exact h
  | succ j ih => rw [← Nat.add_assoc]; unfold arcsD; rw [ih]
def arcsS (n : Nat) (l : List UInt8) : Option (List (List Int)) := if l.length % 2 ≠ 0 then none else arcsD n l (l.length / 2)
def ArcsOk (n : Nat) (L : List (List Int)) : Prop := ∀ q ∈ L, ∃ a b : Nat, q = [(a : Int), (b : Int)] ∧ a < n + 1 ∧ b < n + 1 ∧ a ≠ b
theorem arcsD_ok {n : Nat} {l : List UInt8} {k : Nat} {L : List (List Int)} (h : arcsD n l k = some L) : ArcsOk n L ∧ L.length = k := by
  induction k generalizing L with
  | zero => unfold arcsD at h; cases h; exact ⟨fun q hq => absurd hq (by simp), rfl⟩
  | succ k ih =>
    unfold arcsD at h
    cases hk : arcsD n l k with
    | none => rw [hk] at h; cases h
    | some M =>
      rw [hk] at h
      dsimp only at h
      split at h
      · rename_i hc
        cases h
        obtain ⟨h1, h2⟩ := ih hk
        refine ⟨fun q hq => ?_, by simp [h2]⟩
        rcases List.mem_append.1 hq with hq | hq
        · exact h1 q hq
        · obtain ⟨⟨hx0, hx1⟩, ⟨hy0, hy1⟩, hne⟩ := hc.1
          have e : q = [arcX l (2 * k), arcX l (2 * k + 1)] := by simpa using hq
          refine ⟨(arcX l (2 * k)).toNat, (arcX l (2 * k + 1)).toNat, ?_, by omega, by omega, by omega⟩
          rw [e, Int.toNat_of_nonneg hx0, Int.toNat_of_nonneg hy0]
      · cases h
/- an arc is there once, so they are few -/
theorem nodup_lt : ∀ (m : Nat) (L : List Nat), L.Nodup → (∀ x ∈ L, x < m) → L.length ≤ m := by
  intro m
  induction m with
  | zero => intro L _ h; cases L with
    | nil => simp
    | cons x r => exact absurd (h x (by simp)) (by omega)
  | succ m ih =>
    intro L hd h
    by_cases hm : m ∈ L
    · have h1 := ih (L.erase m) (hd.erase m) (fun x hx => by
        have h2 := (hd.mem_erase_iff).1 hx
        have := h x h2.2
        have := h2.1
        omega)
      rw [List.length_erase_of_mem hm] at h1
      omega
    · have h1 := ih L hd (fun x hx => by
        have := h x hx
        have : x ≠ m := fun e => hm (e ▸ hx)
        omega)
      omega
def arcN (q : List Int) : Nat := (q.getD 0 0).toNat * 8 + (q.getD 1 0).toNat
theorem arcsD_nodup {n : Nat} {l : List UInt8} {k : Nat} {L : List (List Int)} (h : arcsD n l k = some L) : L.Nodup := by
  induction k generalizing L with
  | zero => unfold arcsD at h; cases h; exact List.nodup_nil
  | succ k ih =>
    unfold arcsD at h
    cases hk : arcsD n l k with
    | none => rw [hk] at h; cases h
    | some M =>
      rw [hk] at h
      dsimp only at h
      split at h
      · rename_i hc
        cases h
        rw [List.nodup_append]
        exact ⟨ih hk, by simp, fun a ha b hb e => by
          have : b = [arcX l (2 * k), arcX l (2 * k + 1)] := by simpa using hb
          rw [← this, ← e] at hc
          exact hc.2 ha⟩
      · cases h
theorem arcsD_few {n : Nat} {l : List UInt8} {k : Nat} {L : List (List Int)} (hn : n ≤ 7) (h : arcsD n l k = some L) : L.length ≤ 64 := by
  have ho := (arcsD_ok h).1
  have hd := arcsD_nodup h
  have h1 : (L.map arcN).Nodup := by
    rw [List.nodup_iff_pairwise_ne, List.pairwise_map]
    refine List.Pairwise.imp_of_mem ?_ (List.nodup_iff_pairwise_ne.1 hd)
    intro p q hp hq hne e
    obtain ⟨a, b, rfl, ha, hb, _⟩ := ho p hp
    obtain ⟨c, d, rfl, hc, hd', _⟩ := ho q hq
    simp [arcN] at e
    apply hne
    rw [show a = c by omega, show b = d by omega]
  have h2 := nodup_lt 64 (L.map arcN) h1 (fun x hx => by
    obtain ⟨q, hq, rfl⟩ := List.mem_map.1 hx
    obtain ⟨a, b, rfl, ha, hb, _⟩ := ho q hq
    simp [arcN]; omega)
  simpa using h2
theorem arcsS_few {n : Nat} {l : List UInt8} {L : List (List Int)} (hn : n ≤ 7) (h : arcsS n l = some L) : L.length ≤ 64 := by
  unfold arcsS at h
  split at h
  · cases h
  · exact arcsD_few hn h
theorem arcsS_ok {n : Nat} {l : List UInt8} {L : List (List Int)} (h : arcsS n l = some L) : ArcsOk n L ∧ L.length ≤ l.length := by
  unfold arcsS at h
  split at h
  · cases h
  · obtain ⟨h1, h2⟩ := arcsD_ok h
    exact ⟨h1, by omega⟩
/- a table with some arcs marked -/
def putT (T : Nat → Nat → Int) (L : List (List Int)) (what : Int) : Nat → Nat → Int := fun a b => if [(a : Int), (b : Int)] ∈ L then what else T a b
def freeL (T : Nat → Nat → Int) (L : List (List Int)) : Prop := ∀ a b : Nat, [(a : Int), (b : Int)] ∈ L → T a b = 0
theorem mk_arcs (n : Nat) (what : Int) (T : Nat → Nat → Int) (l : List UInt8) (hw : what ≠ 0) (k : Nat) :
    (arcsD n l k = none → mkGo n what T l k = none) ∧ ∀ L, arcsD n l k = some L → (freeL T L → mkGo n what T l k = some (putT T L what)) ∧ (¬ freeL T L → mkGo n what T l k = none) := by
  induction k with
  | zero =>
    refine ⟨fun h => (by unfold arcsD at h; cases h), fun L h => ?_⟩
    unfold arcsD at h
    cases h
    refine ⟨fun _ => ?_, fun h => absurd (fun a b hab => absurd hab (by simp)) h⟩
    unfold mkGo putT; simp
  | succ k ih =>
    obtain ⟨ih1, ih2⟩ := ih
    cases hk : arcsD n l k with
    | none =>
      have h1 := mkGo_none n what T l k 1 (ih1 hk)
      have h2 := arcsD_none n l k 1 hk
      exact ⟨fun _ => h1, fun L h => by rw [h2] at h; cases h⟩
    | some L =>
      obtain ⟨ja, jb⟩ := ih2 L hk
      have e1 : arcsD n l (k + 1) = if isArcP n (arcX l (2 * k)) (arcX l (2 * k + 1)) ∧ [arcX l (2 * k), arcX l (2 * k + 1)] ∉ L then some (L ++ [[arcX l (2 * k), arcX l (2 * k + 1)]]) else none := by
        conv => lhs; unfold arcsD
        rw [hk]
      by_cases hf : freeL T L
      · have e2 : mkGo n what T l (k + 1) = if saidZ n (putT T L what) (arcX l (2 * k)) (arcX l (2 * k + 1)) = 0 then some (sayZ n (putT T L what) (arcX l (2 * k)) (arcX l (2 * k + 1)) what) else none := by
          conv => lhs; unfold mkGo
          rw [ja hf]
        generalize arcX l (2 * k) = x at *
        generalize arcX l (2 * k + 1) = y at *
        by_cases hp : isArcP n x y
        · obtain ⟨xn, rfl⟩ : ∃ xn : Nat, x = xn := ⟨x.toNat, by have := hp.1; omega⟩
          obtain ⟨yn, rfl⟩ : ∃ yn : Nat, y = yn := ⟨y.toNat, by have := hp.2.1; omega⟩
          have e3 : saidZ n (putT T L what) xn yn = if [(xn : Int), (yn : Int)] ∈ L then what else T xn yn := by unfold saidZ; rw [if_pos hp]; simp [putT]
          have e4 : sayZ n (putT T L what) xn yn what = upd (putT T L what) xn yn what := by unfold sayZ; rw [if_pos hp]; simp
          rw [e3, e4] at e2
          by_cases hm : [(xn : Int), (yn : Int)] ∈ L
          · rw [if_neg (fun h => h.2 hm)] at e1
            rw [if_pos hm, if_neg hw] at e2
            exact ⟨fun _ => e2, fun M h => by rw [e1] at h; cases h⟩
          · rw [if_pos ⟨hp, hm⟩] at e1
            rw [if_neg hm] at e2
            refine ⟨fun h => (by rw [e1] at h; cases h), fun M h => ?_⟩
            rw [e1] at h
            cases h
            by_cases h0 : T xn yn = 0
            · rw [if_pos h0] at e2
              refine ⟨fun _ => ?_, fun hn => absurd (fun a b hab => ?_) hn⟩
              · rw [e2]
                congr 1
                funext a b
                unfold upd putT
                by_cases hab : a = xn ∧ b = yn
                · rw [if_pos hab, hab.1, hab.2, if_pos (by simp)]
                · rw [if_neg hab]
                  by_cases hm2 : [(a : Int), (b : Int)] ∈ L
                  · rw [if_pos hm2, if_pos (by simp [hm2])]
                  · rw [if_neg hm2, if_neg]
                    intro h
                    rcases List.mem_append.1 h with h | h
                    · exact hm2 h
                    · have : [(a : Int), (b : Int)] = [(xn : Int), (yn : Int)] := by simpa using h
                      simp at this
                      exact hab (by omega)
              · rcases List.mem_append.1 hab with h | h
                · exact hf a b h
                · have : [(a : Int), (b : Int)] = [(xn : Int), (yn : Int)] := by simpa using h
                  simp at this
                  rw [show a = xn by omega, show b = yn by omega]; exact h0
            · rw [if_neg h0] at e2
              exact ⟨fun hn => absurd (hn xn yn (by simp)) h0, fun _ => e2⟩
        · have e3 : saidZ n (putT T L what) x y = -1 := by unfold saidZ; rw [if_neg hp]
          rw [e3, if_neg (by omega)] at e2
          rw [if_neg (fun h => hp h.1)] at e1
          exact ⟨fun _ => e2, fun M h => by rw [e1] at h; cases h⟩
      · have e2 := mkGo_none n what T l k 1 (jb hf)
        refine ⟨fun _ => e2, fun M h => ⟨fun hM => absurd (fun a b hab => ?_) hf, fun _ => e2⟩⟩
        rw [e1] at h
        split at h
        · cases h
          exact hM a b (by simp [hab])
        · cases h
theorem mark_arcs (n : Nat) (what : Int) (T : Nat → Nat → Int) (l : List UInt8) (hw : what ≠ 0) :
    (arcsS n l = none → markS n what T l = none) ∧ ∀ L, arcsS n l = some L → (freeL T L → markS n what T l = some (putT T L what)) ∧ (¬ freeL T L → markS n what T l = none) := by
  unfold arcsS markS
  by_cases h : l.length % 2 ≠ 0
  · rw [if_pos h, if_pos h]; exact ⟨fun _ => rfl, fun L h => by cases h⟩
  · rw [if_neg h, if_neg h]; exact mk_arcs n what T l hw _
def tabS (on off : List (List Int)) : Nat → Nat → Int := putT (putT (fun _ _ => 0) on 1) off 2
/- what the program reads out of two texts, by the lists of their arcs -/
theorem read_arcs (n : Nat) (f b : List UInt8) :
    (arcsS n f = none ∨ arcsS n b = none → readS n (fun _ _ => 0) f b = none) ∧ ∀ on off, arcsS n f = some on → arcsS n b = some off → ((∃ q ∈ on, q ∈ off) → readS n (fun _ _ => 0) f b = none) ∧ ((∀ q ∈ on, q ∉ off) → readS n (fun _ _ => 0) f b = some (tabS on off)) := by
  obtain ⟨a1, a2⟩ := mark_arcs n 1 (fun _ _ => 0) f (by omega)
  have fr : ∀ on, arcsS n f = some on → markS n 1 (fun _ _ => 0) f = some (putT (fun _ _ => 0) on 1) := fun on h => (a2 on h).1 (fun _ _ _ => rfl)
  unfold readS
  refine ⟨fun h => ?_, fun on off h1 h2 => ?_⟩
  · cases hf : arcsS n f with
    | none => rw [a1 hf]
    | some on =>
      rw [fr on hf]
      rcases h with h | h
      · rw [hf] at h; cases h
      · exact (mark_arcs n 2 _ b (by omega)).1 h
  · rw [fr on h1]
    obtain ⟨b1, b2⟩ := (mark_arcs n 2 (putT (fun _ _ => 0) on 1) b (by omega)).2 off h2
    refine ⟨fun h => b2 fun hfr => ?_, fun h => b1 fun a c hac => ?_⟩
    · obtain ⟨q, hq1, hq2⟩ := h
      obtain ⟨x, y, rfl, _⟩ := (arcsS_ok h1).1 q hq1
      have := hfr x y hq2
      unfold putT at this
      rw [if_pos hq1] at this; omega
    · unfold putT
      rw [if_neg (fun hm => h _ hm hac)]
/- a cell by the lists -/
def rivalB (on : List (List Int)) (a b : Nat) : Bool := on.any fun q => decide ((a ≠ 0 ∧ q.getD 0 0 = a ∧ q.getD 1 0 ≠ b) ∨ (b ≠ 0 ∧ q.getD 1 0 = b ∧ q.getD 0 0 ≠ a))
def cellD (on off : List (List Int)) (D : Nat → Nat → Int) (a b : Nat) : Int := if a = 0 ∧ b = 0 then 0 else if a = b ∨ [(a : Int), (b : Int)] ∈ off ∨ rivalB on a b = true then -1 else D a b
theorem tab_two {on off : List (List Int)} (a b : Nat) : tabS on off a b = 2 ↔ [(a : Int), (b : Int)] ∈ off := by
  unfold tabS putT
  by_cases h : [(a : Int), (b : Int)] ∈ off
  · simp [h]
  · simp [h]; split <;> omega
theorem tab_one {on off : List (List Int)} (hd : ∀ q ∈ on, q ∉ off) (a b : Nat) : tabS on off a b = 1 ↔ [(a : Int), (b : Int)] ∈ on := by
  unfold tabS putT
  by_cases h : [(a : Int), (b : Int)] ∈ on
  · simp [h, hd _ h]
  · by_cases h2 : [(a : Int), (b : Int)] ∈ off
    · simp [h, h2]
    · simp [h, h2]
theorem fe_rival {n : Nat} {on off : List (List Int)} (ho : ArcsOk n on) (hd : ∀ q ∈ on, q ∉ off) (a b : Nat) : feS n (tabS on off) a b = rivalB on a b := by
  rw [Bool.eq_iff_iff]
  unfold feS rivalB
  rw [List.any_eq_true, List.any_eq_true]
  constructor
  · rintro ⟨c, hc, h⟩
    have h := of_decide_eq_true h
    rcases h with ⟨h1, h2, h3⟩ | ⟨h1, h2, h3⟩
    · exact ⟨_, (tab_one hd a c).1 h3, decide_eq_true (.inl ⟨h1, rfl, by show (c : Int) ≠ b; omega⟩)⟩
    · exact ⟨_, (tab_one hd c b).1 h3, decide_eq_true (.inr ⟨h1, rfl, by show (c : Int) ≠ a; omega⟩)⟩
  · rintro ⟨q, hq, h⟩
    obtain ⟨x, y, rfl, hx, hy, hxy⟩ := ho q hq
    have h := of_decide_eq_true h
    simp at h
    rcases h with ⟨h1, h2, h3⟩ | ⟨h1, h2, h3⟩
    · have : x = a := by omega
      subst this
      exact ⟨y, by simpa using hy, decide_eq_true (.inl ⟨h1, by omega, (tab_one hd x y).2 hq⟩)⟩
    · have : y = b := by omega
      subst this
      exact ⟨x, by simpa using hx, decide_eq_true (.inr ⟨h1, by omega, (tab_one hd x y).2 hq⟩)⟩
theorem cell_same {n : Nat} {on off : List (List Int)} (ho : ArcsOk n on) (hd : ∀ q ∈ on, q ∉ off) (D : Nat → Nat → Int) (a b : Nat) : cellS n (tabS on off) D a b = cellD on off D a b := by
  unfold cellS cellD
  rw [fe_rival ho hd]
  simp only [tab_two]
end Go.Proofs.Ytebinaopncclgaa
namespace Go.Proofs.Ytebinaopncclgaa

def dB (a : Nat) : UInt8 := UInt8.ofNat (48 + a)
def arcB (p : Nat × Nat) : List UInt8 := [dB p.1, dB p.2]
def arcsB (L : List (Nat × Nat)) : List UInt8 := (L.map arcB).flatten
theorem dB_nat {a : Nat} (h : a ≤ 9) : (dB a).toNat = 48 + a := by unfold dB; simp; omega
theorem dB_inj {a b : Nat} (ha : a ≤ 9) (hb : b ≤ 9) (h : dB a = dB b) : a = b := by
  have := dB_nat ha; have := dB_nat hb; rw [h] at *; omega
theorem arcsB_cons (p : Nat × Nat) (L : List (Nat × Nat)) : arcsB (p :: L) = dB p.1 :: dB p.2 :: arcsB L := by simp [arcsB, arcB]
theorem arcsB_app (L M : List (Nat × Nat)) : arcsB (L ++ M) = arcsB L ++ arcsB M := by simp [arcsB]
theorem arcsB_length (L : List (Nat × Nat)) : (arcsB L).length = 2 * L.length := by
  induction L with
  | nil => rfl
  | cons p L ih => rw [arcsB_cons]; simp [ih]; omega
def Low (L : List (Nat × Nat)) : Prop := ∀ p ∈ L, p.1 ≤ 9 ∧ p.2 ≤ 9
theorem arcsB_at {L : List (Nat × Nat)} {k : Nat} (h : k < L.length) : ((arcsB L).drop (2 * k)).take 2 = arcB L[k] := by
  induction L generalizing k with
  | nil => exact absurd h (by simp)
  | cons p L ih =>
    rw [arcsB_cons]
    cases k with
    | zero => rfl
    | succ k => rw [show 2 * (k + 1) = 2 * k + 1 + 1 by omega, List.drop_succ_cons, List.drop_succ_cons, ih (by simpa using h)]; rfl
theorem arcB_inj {p q : Nat × Nat} (hp : p.1 ≤ 9 ∧ p.2 ≤ 9) (hq : q.1 ≤ 9 ∧ q.2 ≤ 9) (h : arcB p = arcB q) : p = q := by
  unfold arcB at h
  simp only [List.cons.injEq, and_true] at h
  exact Prod.ext (dB_inj hp.1 hq.1 h.1) (dB_inj hp.2 hq.2 h.2)
theorem arcX_at {L : List (Nat × Nat)} (hL : Low L) {k : Nat} (h : k < L.length) : arcX (arcsB L) (2 * k) = (L[k].1 : Int) ∧ arcX (arcsB L) (2 * k + 1) = (L[k].2 : Int) := by
  induction L generalizing k with
  | nil => exact absurd h (by simp)
  | cons p L ih =>
    rw [arcsB_cons]
    cases k with
    | zero =>
      have h1 := hL p (by simp)
      have h2 := dB_nat h1.1
      have h3 := dB_nat h1.2
      refine ⟨?_, ?_⟩
      · show ((dB p.1).toNat : Int) - 48 = _; rw [h2]; simp; omega
      · show ((dB p.2).toNat : Int) - 48 = _; rw [h3]; simp; omega
    | succ k =>
      have := ih (fun q hq => hL q (List.mem_cons_of_mem _ hq)) (k := k) (by simpa using h)
      rw [show 2 * (k + 1) = 2 * k + 1 + 1 by omega]
      exact this
def zP (p : Nat × Nat) : List Int := [(p.1 : Int), (p.2 : Int)]
theorem zP_inj {p q : Nat × Nat} (h : zP p = zP q) : p = q := by
  unfold zP at h
  simp only [List.cons.injEq, and_true] at h
  exact Prod.ext (by omega) (by omega)
theorem arcs_text {n : Nat} (hn : n ≤ 9) {L : List (Nat × Nat)} (hd : L.Nodup) (hr : ∀ p ∈ L, p.1 ≤ n ∧ p.2 ≤ n ∧ p.1 ≠ p.2) : arcsS n (arcsB L) = some (L.map zP) := by
  have hL : Low L := fun p hp => by have := hr p hp; omega
  have key : ∀ k, k ≤ L.length → arcsD n (arcsB L) k = some ((L.take k).map zP) := by
    intro k
    induction k with
    | zero => intro _; simp [arcsD]
    | succ k ih =>
      intro hk
      unfold arcsD
      rw [ih (by omega)]
      obtain ⟨e1, e2⟩ := arcX_at hL (show k < L.length by omega)
      rw [e1, e2]
      have h1 := hr L[k] (List.getElem_mem _)
      dsimp only
      rw [if_pos]
      · rw [List.take_succ_eq_append_getElem (by omega), List.map_append]; rfl
      · refine ⟨?_, ?_⟩
        · unfold isArcP; omega
        · intro hc
          obtain ⟨q, hq, he⟩ := List.mem_map.1 hc
          have := zP_inj (he.trans (show _ = zP L[k] from rfl))
          subst this
          rw [List.mem_take_iff_getElem] at hq
          obtain ⟨i, hi, he⟩ := hq
          exact (List.pairwise_iff_getElem.1 hd) i k (by omega) (by omega) (by omega) he
  unfold arcsS
  rw [arcsB_length, if_neg (by omega), show 2 * L.length / 2 = L.length by omega, key _ (Nat.le_refl _), List.take_length]
/- two texts of arcs are read into a table -/
theorem read_text {n : Nat} (hn : n ≤ 9) {F B : List (Nat × Nat)} (hF : F.Nodup) (hB : B.Nodup) (rF : ∀ p ∈ F, p.1 ≤ n ∧ p.2 ≤ n ∧ p.1 ≠ p.2) (rB : ∀ p ∈ B, p.1 ≤ n ∧ p.2 ≤ n ∧ p.1 ≠ p.2) (hd : ∀ p ∈ F, p ∉ B) :
    ∃ T, readS n (fun _ _ => 0) (arcsB F) (arcsB B) = some T ∧ (∀ a b, T a b = 1 ↔ (a, b) ∈ F) ∧ (∀ a b, T a b = 2 ↔ (a, b) ∈ B) ∧ ∀ a, T a a = 0 := by
  have hd' : ∀ q ∈ F.map zP, q ∉ B.map zP := fun q hq hc => by
    obtain ⟨p, hp, rfl⟩ := List.mem_map.1 hq
    obtain ⟨p', hp', he⟩ := List.mem_map.1 hc
    exact hd p hp (zP_inj he ▸ hp')
  have hm : ∀ (L : List (Nat × Nat)) (a b : Nat), [(a : Int), (b : Int)] ∈ L.map zP ↔ (a, b) ∈ L := fun L a b => by
    constructor
    · intro h
      obtain ⟨p, hp, he⟩ := List.mem_map.1 h
      have := zP_inj (he.trans (show _ = zP (a, b) from rfl))
      exact this ▸ hp
    · intro h; exact List.mem_map.2 ⟨_, h, rfl⟩
  refine ⟨_, ((read_arcs n (arcsB F) (arcsB B)).2 _ _ (arcs_text hn hF rF) (arcs_text hn hB rB)).2 hd', fun a b => ?_, fun a b => ?_, fun a => ?_⟩
  · rw [tab_one hd', hm]
  · rw [tab_two, hm]
  · unfold tabS putT
    rw [if_neg, if_neg]
    · rw [hm]; exact fun h => (rF _ h).2.2 rfl
    · rw [hm]; exact fun h => (rB _ h).2.2 rfl
end Go.Proofs.Ytebinaopncclgaa
namespace Go.Proofs.Ytebinaopncclgaa
open Go.RowKit Go.IntWalk

theorem baL (s : ByteArray) : s.toList = s.data.toList := by rw [ByteArray.toList_eq]
theorem pair_at {s : ByteArray} {L : List (Nat × Nat)} (hs : s.data.toList = arcsB L) {k : Nat} (h : k < L.length) : (s.extract (2 * k) (2 * k + 2)).data.toList = arcB L[k] := by
  rw [Lib.extract_eq]
  show (((s.data.toList.drop (2 * k)).take (2 * k + 2 - 2 * k)).toArray).toList = _
  rw [hs, show 2 * k + 2 - 2 * k = 2 by omega, List.toList_toArray, arcsB_at h]

set_option maxRecDepth 100000 in
set_option maxHeartbeats 4000000 in
theorem goes_any (L : List (Nat × Nat)) (p : Nat × Nat) (s t : ByteArray) (w : World) (hs : s.data.toList = arcsB L) (ht : t.data.toList = arcB p) (hL : Low L) (hp : p.1 ≤ 9 ∧ p.2 ≤ 9) (hn : L.length ≤ 1000) :
    Calls Try.prog 38 #[.string s, .string t] w fun e w' => e = .returned (.bool (decide (p ∈ L))) ∧ Below w.heap.size w w' := by
  have hsz : s.size = 2 * L.length := by rw [← arcsB_length, ← hs]; simp
  go_enter Try.func38, Try.ntmps38
  go_wp2
  go_loopw [5] (fun i wr => ∃ k : Nat, i = .int .i64 (2 * k : Nat) ∧ k ≤ L.length ∧ Hid (p ∉ L.take k) ∧ Hid (Below w.heap.size w wr)) (fun i _ => s.size - (intOf i).toNat)
  case atStart => exact ⟨0, rfl, by omega, by show _ ∉ _; simp, Below.refl _ _⟩
  case round =>
    obtain ⟨k, rfl, hk, HN, HB⟩ := hrel
    by_cases hlt : k < L.length
    · have hx := pair_at hs hlt
      have c1 : ((2 * k : Nat) : Int) + 1 < (s.size : Int) := by omega
      have hx2 : (s.extract (2 * k) (2 * k + 2)).toList = arcB L[k] := by rw [baL, hx]
      have ht2 : t.toList = arcB p := by rw [baL, ht]
      have hpk := hL L[k] (List.getElem_mem _)
      go_wp2_with fail
      · rename_i hq
        have he : L[k] = p := arcB_inj hpk hp (by simpa using hq)
        have : p ∈ L := he ▸ List.getElem_mem _
        go_ret
        exact ⟨by simp [this], HB.out⟩
      · rename_i hq
        have he : L[k] ≠ p := fun e => by rw [e] at hq; simp at hq
        refine ⟨⟨k + 1, by go_num, by omega, ?_, HB.out⟩, by simp [intOf]; omega⟩
        show _ ∉ _
        rw [List.take_succ_eq_append_getElem hlt, List.mem_append]
        rintro (h | h)
        · exact HN.out h
        · have h2 : p = L[k] := by simpa using h
          exact he h2.symm
    · have c1 : ¬ ((2 * k : Nat) : Int) + 1 < (s.size : Int) := by omega
      go_wp2_with fail
      go_ret
      have : p ∉ L := by have := HN.out; rwa [List.take_of_length_le (by omega)] at this
      exact ⟨by simp [this], HB.out⟩

set_option maxRecDepth 100000 in
set_option maxHeartbeats 4000000 in
theorem some_any (L : List (Nat × Nat)) (c : Int) (s : ByteArray) (w : World) (hs : s.data.toList = arcsB L) (hn : L.length ≤ 1000) :
    Calls Try.prog 23 #[.string s, .int .i64 c] w fun e w' => (∃ M, e = .returned (.string ⟨(arcsB M).toArray⟩) ∧ M.Sublist L) ∧ Below w.heap.size w w' := by
  have hsz : s.size = 2 * L.length := by rw [← arcsB_length, ← hs]; simp
  go_enter Try.func23, Try.ntmps23
  go_wp2
  go_loopw [5, 6] (fun sv i wr => ∃ (k : Nat) (M : List (Nat × Nat)), i = .int .i64 (2 * k : Nat) ∧ sv = .string ⟨(arcsB M).toArray⟩ ∧ k ≤ L.length ∧ Hid (M.Sublist (L.take k)) ∧ Hid (Below w.heap.size w wr)) (fun _ i _ => s.size - (intOf i).toNat)
  case atStart => exact ⟨0, [], rfl, rfl, by omega, by show List.Sublist _ _; simp, Below.refl _ _⟩
  case round =>
    obtain ⟨k, M, rfl, rfl, hk, HN, HB⟩ := hrel
    by_cases hlt : k < L.length
    · have hx := pair_at hs hlt
      have c1 : ((2 * k : Nat) : Int) + 1 < (s.size : Int) := by omega
      have hm : M.length ≤ 1000 := by have := HN.out.length_le; simp at this; omega
      have hl1 := arcsB_length M
      have hx3 : Hid (s.extract (2 * k) (2 * k + 2) = ⟨(arcB L[k]).toArray⟩) := ByteArray.ext (by rw [← hx])
      clear hx
      go_wp2_with fail
      · refine ⟨⟨k + 1, M ++ [L[k]], by go_num, ?_, by omega, ?_, HB.out⟩, by simp [intOf]; omega⟩
        · rw [show s.extract (2 * k) (2 * k + 2) = _ from hx3, ba_append, arcsB_app]; simp [arcsB]
        · show List.Sublist _ _
          rw [List.take_succ_eq_append_getElem hlt]
          exact HN.out.append (List.Sublist.refl _)
      · refine ⟨⟨k + 1, M, by go_num, rfl, by omega, ?_, HB.out⟩, by simp [intOf]; omega⟩
        show List.Sublist _ _
        rw [List.take_succ_eq_append_getElem hlt]
        exact HN.out.trans (List.sublist_append_left _ _)
    · have c1 : ¬ ((2 * k : Nat) : Int) + 1 < (s.size : Int) := by omega
      go_wp2_with fail
      go_ret
      exact ⟨⟨M, rfl, HN.out.trans (List.take_sublist _ _)⟩, HB.out⟩

/- a byte of a plan, as a site -/
def chB (c : UInt8) : UInt8 := if c = 47 then 48 else c
def lgGo (l : List UInt8) : List UInt8 × UInt8 := l.foldl (fun x c => (x.1 ++ [x.2, chB c], chB c)) ([], 48)
theorem lgGo_snoc (l : List UInt8) (c : UInt8) : lgGo (l ++ [c]) = ((lgGo l).1 ++ [(lgGo l).2, chB c], chB c) := by simp [lgGo]
theorem lgGo_length (l : List UInt8) : (lgGo l).1.length = 2 * l.length := by
  have key : ∀ (l : List UInt8) (x : List UInt8 × UInt8), (l.foldl (fun (x : List UInt8 × UInt8) c => (x.1 ++ [x.2, chB c], chB c)) x).1.length = x.1.length + 2 * l.length := by
    intro l
    induction l with
    | nil => intro x; simp
    | cons c l ih => intro x; rw [List.foldl_cons, ih]; simp; omega
  rw [lgGo, key]; simp
def legsS (l : List UInt8) : List UInt8 := if l = [] then [] else (lgGo l).1 ++ [(lgGo l).2, 48]

set_option maxRecDepth 100000 in
set_option maxHeartbeats 4000000 in
theorem legs_any (s : ByteArray) (w : World) (hn : s.size ≤ 1000) :
    Calls Try.prog 22 #[.string s] w fun e w' => e = .returned (.string ⟨(legsS s.data.toList).toArray⟩) ∧ Below w.heap.size w w' := by
  have hv := ne_void s
  go_enter Try.func22, Try.ntmps22
  go_wp2
  go_loopw [3, 4, 5] (fun sv la i wr => ∃ (k : Nat), i = .int .i64 k ∧ sv = .string ⟨(lgGo (s.data.toList.take k)).1.toArray⟩ ∧ la = .string ⟨#[(lgGo (s.data.toList.take k)).2]⟩ ∧ k ≤ s.size ∧ Hid (Below w.heap.size w wr)) (fun _ _ i _ => s.size - (intOf i).toNat)
  case atStart => exact ⟨0, rfl, rfl, rfl, by omega, Below.refl _ _⟩
  case round =>
    obtain ⟨k, rfl, rfl, rfl, hk, HB⟩ := hrel
    by_cases hlt : k < s.size
    · have hl1 := lgGo_length (s.data.toList.take k)
      have hl2 : (s.data.toList.take k).length ≤ 1000 := by simp; omega
      have hx : (s.extract k (k + 1)).data.toList = [s[k]] := by
        rw [Lib.extract_eq]
        show (((s.data.toList.drop k).take (k + 1 - k)).toArray).toList = _
        have hkl : k < s.data.toList.length := by simpa using hlt
        rw [show k + 1 - k = 1 by omega, List.toList_toArray, List.drop_eq_getElem_cons hkl]; rfl
      have hx2 : Hid ((s.extract k (k + 1)).toList = [s[k]]) := by show _ = _; rw [baL, hx]
      have hx3 : Hid (s.extract k (k + 1) = ⟨#[s[k]]⟩) := ByteArray.ext (by rw [← Array.toList_inj, hx])
      have HS : Hid (lgGo (s.data.toList.take (k + 1)) = ((lgGo (s.data.toList.take k)).1 ++ [(lgGo (s.data.toList.take k)).2, chB s[k]], chB s[k])) := by show _ = _; rw [take_snoc s k hlt, lgGo_snoc]
      clear hx
      go_wp2_with fail
      · rename_i hq
        rw [hx2.out] at hq
        have h47 : s[k] = 47 := by simpa using hq
        have hc : chB s[k] = 48 := by unfold chB; rw [if_pos h47]
        refine ⟨⟨k + 1, by go_num, ?_, ?_, by omega, HB.out⟩, by simp [intOf]; omega⟩
        · rw [HS.out, hc]; congr 1; apply ByteArray.ext; simp
        · rw [HS.out, hc]
      · rename_i hq
        rw [hx2.out] at hq
        have h47 : s[k] ≠ 47 := by simpa using hq
        have hc : chB s[k] = s[k] := by unfold chB; rw [if_neg h47]
        refine ⟨⟨k + 1, by go_num, ?_, ?_, by omega, HB.out⟩, by simp [intOf]; omega⟩
        · rw [HS.out, hc, hx3.out]; congr 1; apply ByteArray.ext; simp
        · rw [HS.out, hc, hx3.out]
    · have hl1 := lgGo_length (s.data.toList.take k)
      have hl2 : (s.data.toList.take k).length ≤ 1000 := by simp; omega
      have ha : Hid (s.data.toList.take k = s.data.toList) := take_all s k (by omega)
      have hl3 : s.data.toList.length = s.size := by simp
      go_wp2_with fail
      · go_ret
        refine ⟨retS ?_, HB.out⟩
        rw [ha.out]
        unfold legsS
        rw [if_neg (fun h => by rw [h] at hl3; simp at hl3; omega)]
        apply ByteArray.ext; simp
      · go_ret
        refine ⟨retS ?_, HB.out⟩
        have h0 : s.data.toList = [] := List.eq_nil_of_length_eq_zero (by omega)
        rw [h0, List.take_nil]; rfl

theorem conv2 (W : World) {a b : Nat} (ha : a ≤ 9) (hb : b ≤ 9) :
    (convert 84 9 (.slice (some ⟨W.heap.size, 0, none⟩) 2 2)).run Try.prog (W.alloc (.cells #[.int .u8 (48 + (a : Int)), .int .u8 (48 + (b : Int))] 5)) = .ok (.string ⟨(arcB (a, b)).toArray⟩) (W.alloc (.cells #[.int .u8 (48 + (a : Int)), .int .u8 (48 + (b : Int))] 5)) := by
  have h := run_convert_bytes_arg (P := Try.prog) (W.alloc (.cells #[.int .u8 (48 + (a : Int)), .int .u8 (48 + (b : Int))] 5)) 84 5 Try.underlying84 Try.underlying5 W.heap.size 0 2 2 [48 + (a : Int), 48 + (b : Int)] rfl
    (by intro i hi
        have hh : i = 0 ∨ i = 1 := by omega
        rcases hh with rfl | rfl
        · exact cell_of_row _ W.heap.size 0 _ _ (0, 0) (heap_alloc_new W _)
        · exact cell_of_row _ W.heap.size 1 _ _ (0, 0) (heap_alloc_new W _)) 9 Try.underlying9
  rw [h]
  have e : strOfNums [48 + (a : Int), 48 + (b : Int)] = ⟨(arcB (a, b)).toArray⟩ := by
    have h1 : (48 + (a : Int)).toNat = 48 + a := by omega
    have h2 : (48 + (b : Int)).toNat = 48 + b := by omega
    simp only [strOfNums, List.map_cons, List.map_nil, h1, h2]; rfl
  rw [e]

set_option maxRecDepth 100000 in
set_option maxHeartbeats 4000000 in
theorem others_any (n : Nat) (L : List (Nat × Nat)) (s : ByteArray) (w : World) (hs : s.data.toList = arcsB L) (hL : Low L) (hl : L.length ≤ 1000) (hn : n ≤ 7) :
    Calls Try.prog 24 #[.string s, .int .i64 n] w fun e w' => (∃ M, e = .returned (.string ⟨(arcsB M).toArray⟩) ∧ M.length ≤ 80 ∧ M.Nodup ∧ ∀ p, p ∈ M ↔ p.1 ≤ n ∧ p.2 ≤ n ∧ p.1 ≠ p.2 ∧ p ∉ L) ∧ Below w.heap.size w w' := by
  have HG : Hid (∀ (a b : Nat) (W : World), a ≤ 9 → b ≤ 9 → Calls Try.prog 38 #[.string s, .string ⟨(arcB (a, b)).toArray⟩] W fun e w' => e = .returned (.bool (decide ((a, b) ∈ L))) ∧ Below W.heap.size W w') := fun a b W ha hb => goes_any L (a, b) s _ W hs (by simp) hL ⟨ha, hb⟩ hl
  clear hs hL hl
  go_enter Try.func24, Try.ntmps24
  go_wp2
  go_loopw [5, 6] (fun sv i wr => ∃ (a : Nat) (M : List (Nat × Nat)), i = .int .i64 a ∧ sv = .string ⟨(arcsB M).toArray⟩ ∧ a ≤ n + 1 ∧ M.length ≤ a * 10 ∧ Hid (M.Nodup ∧ ∀ p, p ∈ M ↔ p.1 < a ∧ p.2 ≤ n ∧ p.1 ≠ p.2 ∧ p ∉ L) ∧ Hid (Below w.heap.size w wr)) (fun _ i _ => n + 1 - (intOf i).toNat)
  case atStart => exact ⟨0, [], rfl, rfl, by omega, by simp, by show _ ∧ _; simp, Below.refl _ _⟩
  case round =>
    obtain ⟨a, M, rfl, rfl, ha, hM, HM, HB⟩ := hrel
    by_cases hlt : a ≤ n
    · go_wp2_with fail
      go_loopw [5, 7] (fun sv i wr => ∃ (b : Nat) (M : List (Nat × Nat)), i = .int .i64 b ∧ sv = .string ⟨(arcsB M).toArray⟩ ∧ b ≤ n + 1 ∧ M.length ≤ a * 10 + b ∧ Hid (M.Nodup ∧ ∀ p, p ∈ M ↔ (p.1 < a ∨ (p.1 = a ∧ p.2 < b)) ∧ p.2 ≤ n ∧ p.1 ≠ p.2 ∧ p ∉ L) ∧ Hid (Below w.heap.size w wr)) (fun _ i _ => n + 1 - (intOf i).toNat)
      case atStart => exact ⟨0, M, rfl, rfl, by omega, by omega, ⟨HM.out.1, fun p => by rw [HM.out.2]; simp⟩, HB.out⟩
      case round =>
        obtain ⟨b, M2, rfl, rfl, hb, hM2, HM2, HB2⟩ := hrel
        by_cases hltb : b ≤ n
        · have kc := fun W => conv2 W (show a ≤ 9 by omega) (show b ≤ 9 by omega)
          have hm1 := arcsB_length M2
          go_wp2_with fail
          refine (HG.out a b _ (by omega) (by omega)).mono ?_
          rintro e1 w1 ⟨rfl, hb1⟩
          have HB3 : Hid (Below w.heap.size w w1) := HB2.out.trans (((below1 wr _).trans (hb1.mono (by simp))).mono HB2.out.size)
          have hno : (a, b) ∉ M2 := fun h => by have := ((HM2.out.2 _).1 h).1; omega
          have HNO := hid hno
          clear hb1 kc hno
          by_cases hab : a = b
          · subst hab
            have hz : ((a : Int) != (a : Int)) = false := by simp
            generalize decide ((a, a) ∈ L) = g at *
            go_wp2_with fail
            refine ⟨⟨a + 1, M2, by go_num, rfl, by omega, by omega, ⟨HM2.out.1, fun p => ?_⟩, HB3.out⟩, by simp [intOf]; omega⟩
            rw [HM2.out.2]
            constructor
            · rintro ⟨h1, h2⟩; exact ⟨by omega, h2⟩
            · rintro ⟨h1, h2⟩; exact ⟨by omega, h2⟩
          · have hz : ((a : Int) != (b : Int)) = true := by simp; omega
            by_cases hin : (a, b) ∈ L
            · have hg : decide ((a, b) ∈ L) = true := by simpa using hin
              have HIN := hid hin
              rw [hg]
              clear hg hin
              go_wp2_with fail
              refine ⟨⟨b + 1, M2, by go_num, rfl, by omega, by omega, ⟨HM2.out.1, fun p => ?_⟩, HB3.out⟩, by simp [intOf]; omega⟩
              rw [HM2.out.2]
              constructor
              · rintro ⟨h1, h2⟩; exact ⟨by omega, h2⟩
              · rintro ⟨h1, h2, h3, h4⟩
                refine ⟨?_, h2, h3, h4⟩
                false_or_by_contra
                exact h4 (by
                  have e : p = (a, b) := Prod.ext (by simp; omega) (by simp; omega)
                  rw [e]; exact HIN.out)
            · have hg : decide ((a, b) ∈ L) = false := by simpa using hin
              have HIN := hid hin
              have hm3 : (arcB (a, b)).length = 2 := rfl
              rw [hg]
              clear hg hin
              go_wp2_with fail
              refine ⟨⟨b + 1, M2 ++ [(a, b)], by go_num, ?_, by omega, by simp; omega, ⟨?_, fun p => ?_⟩, HB3.out⟩, by simp [intOf]; omega⟩
              · rw [ba_append, arcsB_app]; simp [arcsB]
              · rw [List.nodup_append]
                refine ⟨HM2.out.1, by simp, fun x hx y hy => ?_⟩
                have : y = (a, b) := by simpa using hy
                rw [this]; exact fun e => HNO.out (e ▸ hx)
              · rw [List.mem_append, HM2.out.2]
                constructor
                · rintro (⟨h1, h2⟩ | h1)
                  · exact ⟨by omega, h2⟩
                  · have : p = (a, b) := by simpa using h1
                    rw [this]; exact ⟨by simp, by simpa using hltb, by simpa using hab, HIN.out⟩
                · rintro ⟨h1, h2, h3, h4⟩
                  by_cases e : p = (a, b)
                  · exact .inr (by simp [e])
                  · refine .inl ⟨?_, h2, h3, h4⟩
                    false_or_by_contra
                    exact e (Prod.ext (by simp; omega) (by simp; omega))
        · go_wp2_with fail
          refine ⟨⟨a + 1, M2, by go_num, rfl, by omega, by omega, ⟨HM2.out.1, fun p => ?_⟩, HB2.out⟩, by simp [intOf]; omega⟩
          rw [HM2.out.2]
          constructor
          · rintro ⟨h1, h2⟩; exact ⟨by omega, h2⟩
          · rintro ⟨h1, h2⟩; exact ⟨by omega, h2⟩
    · go_wp2_with fail
      go_ret
      exact ⟨⟨M, rfl, by omega, HM.out.1, fun p => by rw [HM.out.2]; constructor <;> (rintro ⟨h1, h2⟩; exact ⟨by omega, h2⟩)⟩, HB.out⟩
end Go.Proofs.Ytebinaopncclgaa
