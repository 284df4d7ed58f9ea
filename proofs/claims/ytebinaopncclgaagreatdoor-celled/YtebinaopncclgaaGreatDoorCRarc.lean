/- Walks of the document's answer: the arcs of a text. -/
import Derived.Test.YtebinaopncclgaaGreatDoorCCell
import Derived.Test.YtebinaopncclgaaGreatDoorCRead
import Derived.Test.YtebinaopncclgaaGreatDoorOnZ
namespace Go.Proofs.YtebinaopncclgaaGreatDoor

/- the arcs of a text, the first k of them, each once -/
def arcsD (n : Nat) (l : List UInt8) : Nat → Option (List (List Int))
  | 0 => some []
  | k + 1 => match arcsD n l k with
    | none => none
    | some L => if isArcP n (arcX l (2 * k)) (arcX l (2 * k + 1)) ∧ [arcX l (2 * k), arcX l (2 * k + 1)] ∉ L then some (L ++ [[arcX l (2 * k), arcX l (2 * k + 1)]]) else none
theorem arcsD_none (n : Nat) (l : List UInt8) (k j : Nat) (h : arcsD n l k = none) : arcsD n l (k + j) = none := by
  induction j with
  | zero => exact h
  | succ j ih => rw [← Nat.add_assoc]; unfold arcsD; rw [ih]
def arcsS (n : Nat) (l : List UInt8) : Option (List (List Int)) := if l.length % 2 ≠ 0 then none else arcsD n l (l.length / 2)
def ArcsOk (n : Nat) (L : List (List Int)) : Prop := ∀ q ∈ L, ∃ a b : Nat, q = [(a : Int), (b : Int)] ∧ a < n + 1 ∧ b < n + 1 ∧ a ≠ b
theorem arcsD_ok {n : Nat} {l : List UInt8} {k : Nat} {L : List (List Int)} (h : arcsD n l k = some L) : ArcsOk n L ∧ L.length = k := by
  induction k generalizing L with
  | zero => unfold arcsD at h; cases h; exact ⟨fun q hq => absurd hq (by simp), rfl⟩
  | succ k ih =>
    unfold arcsD at h
    cases hk : arcsD n l k with
    | none => rw [hk] at h; cases h
    | some M =>
      rw [hk] at h
      dsimp only at h
      split at h
      · rename_i hc
        cases h
        obtain ⟨h1, h2⟩ := ih hk
        refine ⟨fun q hq => ?_, by simp [h2]⟩
        rcases List.mem_append.1 hq with hq | hq
        · exact h1 q hq
        · obtain ⟨⟨hx0, hx1⟩, ⟨hy0, hy1⟩, hne⟩ := hc.1
          have e : q = [arcX l (2 * k), arcX l (2 * k + 1)] := by simpa using hq
          refine ⟨(arcX l (2 * k)).toNat, (arcX l (2 * k + 1)).toNat, ?_, by omega, by omega, by omega⟩
          rw [e, Int.toNat_of_nonneg hx0, Int.toNat_of_nonneg hy0]
      · cases h
/- an arc is there once, so they are few -/
theorem nodup_lt : ∀ (m : Nat) (L : List Nat), L.Nodup → (∀ x ∈ L, x < m) → L.length ≤ m := by
  intro m
  induction m with
  | zero => intro L _ h; cases L with
    | nil => simp
    | cons x r => exact absurd (h x (by simp)) (by omega)
  | succ m ih =>
    intro L hd h
    by_cases hm : m ∈ L
    · have h1 := ih (L.erase m) (hd.erase m) (fun x hx => by
        have h2 := (hd.mem_erase_iff).1 hx
        have := h x h2.2
        have := h2.1
        omega)
      rw [List.length_erase_of_mem hm] at h1
      omega
    · have h1 := ih L hd (fun x hx => by
        have := h x hx
        have : x ≠ m := fun e => hm (e ▸ hx)
        omega)
      omega
def arcN (q : List Int) : Nat := (q.getD 0 0).toNat * 8 + (q.getD 1 0).toNat
theorem arcsD_nodup {n : Nat} {l : List UInt8} {k : Nat} {L : List (List Int)} (h : arcsD n l k = some L) : L.Nodup := by
  induction k generalizing L with
  | zero => unfold arcsD at h; cases h; exact List.nodup_nil
  | succ k ih =>
    unfold arcsD at h
    cases hk : arcsD n l k with
    | none => rw [hk] at h; cases h
    | some M =>
      rw [hk] at h
      dsimp only at h
      split at h
      · rename_i hc
        cases h
        rw [List.nodup_append]
        exact ⟨ih hk, by simp, fun a ha b hb e => by
          have : b = [arcX l (2 * k), arcX l (2 * k + 1)] := by simpa using hb
          rw [← this, ← e] at hc
          exact hc.2 ha⟩
      · cases h
theorem arcsD_few {n : Nat} {l : List UInt8} {k : Nat} {L : List (List Int)} (hn : n ≤ 7) (h : arcsD n l k = some L) : L.length ≤ 64 := by
  have ho := (arcsD_ok h).1
  have hd := arcsD_nodup h
  have h1 : (L.map arcN).Nodup := by
    rw [List.nodup_iff_pairwise_ne, List.pairwise_map]
    refine List.Pairwise.imp_of_mem ?_ (List.nodup_iff_pairwise_ne.1 hd)
    intro p q hp hq hne e
    obtain ⟨a, b, rfl, ha, hb, _⟩ := ho p hp
    obtain ⟨c, d, rfl, hc, hd', _⟩ := ho q hq
    simp [arcN] at e
    apply hne
    rw [show a = c by omega, show b = d by omega]
  have h2 := nodup_lt 64 (L.map arcN) h1 (fun x hx => by
    obtain ⟨q, hq, rfl⟩ := List.mem_map.1 hx
    obtain ⟨a, b, rfl, ha, hb, _⟩ := ho q hq
    simp [arcN]; omega)
  simpa using h2
theorem arcsS_few {n : Nat} {l : List UInt8} {L : List (List Int)} (hn : n ≤ 7) (h : arcsS n l = some L) : L.length ≤ 64 := by
  unfold arcsS at h
  split at h
  · cases h
  · exact arcsD_few hn h
theorem arcsS_ok {n : Nat} {l : List UInt8} {L : List (List Int)} (h : arcsS n l = some L) : ArcsOk n L ∧ L.length ≤ l.length := by
  unfold arcsS at h
  split at h
  · cases h
  · obtain ⟨h1, h2⟩ := arcsD_ok h
    exact ⟨h1, by omega⟩
/- a table with some arcs marked -/
def putT (T : Nat → Nat → Int) (L : List (List Int)) (what : Int) : Nat → Nat → Int := fun a b => if [(a : Int), (b : Int)] ∈ L then what else T a b
def freeL (T : Nat → Nat → Int) (L : List (List Int)) : Prop := ∀ a b : Nat, [(a : Int), (b : Int)] ∈ L → T a b = 0
theorem mk_arcs (n : Nat) (what : Int) (T : Nat → Nat → Int) (l : List UInt8) (hw : what ≠ 0) (k : Nat) :
    (arcsD n l k = none → mkGo n what T l k = none) ∧ ∀ L, arcsD n l k = some L → (freeL T L → mkGo n what T l k = some (putT T L what)) ∧ (¬ freeL T L → mkGo n what T l k = none) := by
  induction k with
  | zero =>
    refine ⟨fun h => (by unfold arcsD at h; cases h), fun L h => ?_⟩
    unfold arcsD at h
    cases h
    refine ⟨fun _ => ?_, fun h => absurd (fun a b hab => absurd hab (by simp)) h⟩
    unfold mkGo putT; simp
  | succ k ih =>
    obtain ⟨ih1, ih2⟩ := ih
    cases hk : arcsD n l k with
    | none =>
      have h1 := mkGo_none n what T l k 1 (ih1 hk)
      have h2 := arcsD_none n l k 1 hk
      exact ⟨fun _ => h1, fun L h => by rw [h2] at h; cases h⟩
    | some L =>
      obtain ⟨ja, jb⟩ := ih2 L hk
      have e1 : arcsD n l (k + 1) = if isArcP n (arcX l (2 * k)) (arcX l (2 * k + 1)) ∧ [arcX l (2 * k), arcX l (2 * k + 1)] ∉ L then some (L ++ [[arcX l (2 * k), arcX l (2 * k + 1)]]) else none := by
        conv => lhs; unfold arcsD
        rw [hk]
      by_cases hf : freeL T L
      · have e2 : mkGo n what T l (k + 1) = if saidZ n (putT T L what) (arcX l (2 * k)) (arcX l (2 * k + 1)) = 0 then some (sayZ n (putT T L what) (arcX l (2 * k)) (arcX l (2 * k + 1)) what) else none := by
          conv => lhs; unfold mkGo
          rw [ja hf]
        generalize arcX l (2 * k) = x at *
        generalize arcX l (2 * k + 1) = y at *
        by_cases hp : isArcP n x y
        · obtain ⟨xn, rfl⟩ : ∃ xn : Nat, x = xn := ⟨x.toNat, by have := hp.1; omega⟩
          obtain ⟨yn, rfl⟩ : ∃ yn : Nat, y = yn := ⟨y.toNat, by have := hp.2.1; omega⟩
          have e3 : saidZ n (putT T L what) xn yn = if [(xn : Int), (yn : Int)] ∈ L then what else T xn yn := by unfold saidZ; rw [if_pos hp]; simp [putT]
          have e4 : sayZ n (putT T L what) xn yn what = upd (putT T L what) xn yn what := by unfold sayZ; rw [if_pos hp]; simp
          rw [e3, e4] at e2
          by_cases hm : [(xn : Int), (yn : Int)] ∈ L
          · rw [if_neg (fun h => h.2 hm)] at e1
            rw [if_pos hm, if_neg hw] at e2
            exact ⟨fun _ => e2, fun M h => by rw [e1] at h; cases h⟩
          · rw [if_pos ⟨hp, hm⟩] at e1
            rw [if_neg hm] at e2
            refine ⟨fun h => (by rw [e1] at h; cases h), fun M h => ?_⟩
            rw [e1] at h
            cases h
            by_cases h0 : T xn yn = 0
            · rw [if_pos h0] at e2
              refine ⟨fun _ => ?_, fun hn => absurd (fun a b hab => ?_) hn⟩
              · rw [e2]
                congr 1
                funext a b
                unfold upd putT
                by_cases hab : a = xn ∧ b = yn
                · rw [if_pos hab, hab.1, hab.2, if_pos (by simp)]
                · rw [if_neg hab]
                  by_cases hm2 : [(a : Int), (b : Int)] ∈ L
                  · rw [if_pos hm2, if_pos (by simp [hm2])]
                  · rw [if_neg hm2, if_neg]
                    intro h
                    rcases List.mem_append.1 h with h | h
                    · exact hm2 h
                    · have : [(a : Int), (b : Int)] = [(xn : Int), (yn : Int)] := by simpa using h
                      simp at this
                      exact hab (by omega)
              · rcases List.mem_append.1 hab with h | h
                · exact hf a b h
                · have : [(a : Int), (b : Int)] = [(xn : Int), (yn : Int)] := by simpa using h
                  simp at this
                  rw [show a = xn by omega, show b = yn by omega]; exact h0
            · rw [if_neg h0] at e2
              exact ⟨fun hn => absurd (hn xn yn (by simp)) h0, fun _ => e2⟩
        · have e3 : saidZ n (putT T L what) x y = -1 := by unfold saidZ; rw [if_neg hp]
          rw [e3, if_neg (by omega)] at e2
          rw [if_neg (fun h => hp h.1)] at e1
          exact ⟨fun _ => e2, fun M h => by rw [e1] at h; cases h⟩
      · have e2 := mkGo_none n what T l k 1 (jb hf)
        refine ⟨fun _ => e2, fun M h => ⟨fun hM => absurd (fun a b hab => ?_) hf, fun _ => e2⟩⟩
        rw [e1] at h
        split at h
        · cases h
          exact hM a b (by simp [hab])
        · cases h
theorem mark_arcs (n : Nat) (what : Int) (T : Nat → Nat → Int) (l : List UInt8) (hw : what ≠ 0) :
    (arcsS n l = none → markS n what T l = none) ∧ ∀ L, arcsS n l = some L → (freeL T L → markS n what T l = some (putT T L what)) ∧ (¬ freeL T L → markS n what T l = none) := by
  unfold arcsS markS
  by_cases h : l.length % 2 ≠ 0
  · rw [if_pos h, if_pos h]; exact ⟨fun _ => rfl, fun L h => by cases h⟩
  · rw [if_neg h, if_neg h]; exact mk_arcs n what T l hw _
def tabS (on off : List (List Int)) : Nat → Nat → Int := putT (putT (fun _ _ => 0) on 1) off 2
/- what the program reads out of two texts, by the lists of their arcs -/
theorem read_arcs (n : Nat) (f b : List UInt8) :
    (arcsS n f = none ∨ arcsS n b = none → readS n (fun _ _ => 0) f b = none) ∧ ∀ on off, arcsS n f = some on → arcsS n b = some off → ((∃ q ∈ on, q ∈ off) → readS n (fun _ _ => 0) f b = none) ∧ ((∀ q ∈ on, q ∉ off) → readS n (fun _ _ => 0) f b = some (tabS on off)) := by
  obtain ⟨a1, a2⟩ := mark_arcs n 1 (fun _ _ => 0) f (by omega)
  have fr : ∀ on, arcsS n f = some on → markS n 1 (fun _ _ => 0) f = some (putT (fun _ _ => 0) on 1) := fun on h => (a2 on h).1 (fun _ _ _ => rfl)
  unfold readS
  refine ⟨fun h => ?_, fun on off h1 h2 => ?_⟩
  · cases hf : arcsS n f with
    | none => rw [a1 hf]
    | some on =>
      rw [fr on hf]
      rcases h with h | h
      · rw [hf] at h; cases h
      · exact (mark_arcs n 2 _ b (by omega)).1 h
  · rw [fr on h1]
    obtain ⟨b1, b2⟩ := (mark_arcs n 2 (putT (fun _ _ => 0) on 1) b (by omega)).2 off h2
    refine ⟨fun h => b2 fun hfr => ?_, fun h => b1 fun a c hac => ?_⟩
    · obtain ⟨q, hq1, hq2⟩ := h
      obtain ⟨x, y, rfl, _⟩ := (arcsS_ok h1).1 q hq1
      have := hfr x y hq2
      unfold putT at this
      rw [if_pos hq1] at this; omega
    · unfold putT
      rw [if_neg (fun hm => h _ hm hac)]
/- a cell by the lists -/
def rivalB (on : List (List Int)) (a b : Nat) : Bool := on.any fun q => decide ((a ≠ 0 ∧ q.getD 0 0 = a ∧ q.getD 1 0 ≠ b) ∨ (b ≠ 0 ∧ q.getD 1 0 = b ∧ q.getD 0 0 ≠ a))
def cellD (on off : List (List Int)) (D : Nat → Nat → Int) (a b : Nat) : Int := if a = 0 ∧ b = 0 then 0 else if a = b ∨ [(a : Int), (b : Int)] ∈ off ∨ rivalB on a b = true then -1 else D a b
theorem tab_two {on off : List (List Int)} (a b : Nat) : tabS on off a b = 2 ↔ [(a : Int), (b : Int)] ∈ off := by
  unfold tabS putT
  by_cases h : [(a : Int), (b : Int)] ∈ off
  · simp [h]
  · simp [h]; split <;> omega
theorem tab_one {on off : List (List Int)} (hd : ∀ q ∈ on, q ∉ off) (a b : Nat) : tabS on off a b = 1 ↔ [(a : Int), (b : Int)] ∈ on := by
  unfold tabS putT
  by_cases h : [(a : Int), (b : Int)] ∈ on
  · simp [h, hd _ h]
  · by_cases h2 : [(a : Int), (b : Int)] ∈ off
    · simp [h, h2]
    · simp [h, h2]
theorem fe_rival {n : Nat} {on off : List (List Int)} (ho : ArcsOk n on) (hd : ∀ q ∈ on, q ∉ off) (a b : Nat) : feS n (tabS on off) a b = rivalB on a b := by
  rw [Bool.eq_iff_iff]
  unfold feS rivalB
  rw [List.any_eq_true, List.any_eq_true]
  constructor
  · rintro ⟨c, hc, h⟩
    have h := of_decide_eq_true h
    rcases h with ⟨h1, h2, h3⟩ | ⟨h1, h2, h3⟩
    · exact ⟨_, (tab_one hd a c).1 h3, decide_eq_true (.inl ⟨h1, rfl, by show (c : Int) ≠ b; omega⟩)⟩
    · exact ⟨_, (tab_one hd c b).1 h3, decide_eq_true (.inr ⟨h1, rfl, by show (c : Int) ≠ a; omega⟩)⟩
  · rintro ⟨q, hq, h⟩
    obtain ⟨x, y, rfl, hx, hy, hxy⟩ := ho q hq
    have h := of_decide_eq_true h
    simp at h
    rcases h with ⟨h1, h2, h3⟩ | ⟨h1, h2, h3⟩
    · have : x = a := by omega
      subst this
      exact ⟨y, by simpa using hy, decide_eq_true (.inl ⟨h1, by omega, (tab_one hd x y).2 hq⟩)⟩
    · have : y = b := by omega
      subst this
      exact ⟨x, by simpa using hx, decide_eq_true (.inr ⟨h1, by omega, (tab_one hd x y).2 hq⟩)⟩
theorem cell_same {n : Nat} {on off : List (List Int)} (ho : ArcsOk n on) (hd : ∀ q ∈ on, q ∉ off) (D : Nat → Nat → Int) (a b : Nat) : cellS n (tabS on off) D a b = cellD on off D a b := by
  unfold cellS cellD
  rw [fe_rival ho hd]
  simp only [tab_two]
end Go.Proofs.YtebinaopncclgaaGreatDoor
namespace Go.Proofs.YtebinaopncclgaaGreatDoor
open Go.RowKit Go.IntWalk

/- a list of arcs, read -/
def ArcL (w : World) (v : Value) (L : List (List Int)) : Prop :=
  ∃ ao c, v = .slice ao L.length c ∧ ∀ i (h : i < L.length), ∃ g x y, ao = some ⟨g, 0, none⟩ ∧ g < w.heap.size ∧ L[i] = [x, y] ∧ w.cell? ⟨g, i * 2, none⟩ = some (.int .i64 x) ∧ w.cell? ⟨g, i * 2 + 1, none⟩ = some (.int .i64 y)
theorem ArcL.below {w w' : World} {v : Value} {L : List (List Int)} (h : ArcL w v L) (hb : Below w.heap.size w w') : ArcL w' v L := by
  obtain ⟨ao, c, e, h⟩ := h
  refine ⟨ao, c, e, fun i hi => ?_⟩
  obtain ⟨g, x, y, h1, h2, h3, h4, h5⟩ := h i hi
  exact ⟨g, x, y, h1, Nat.lt_of_lt_of_le h2 hb.size, h3, (hb.cell (by exact h2)).trans h4, (hb.cell (by exact h2)).trans h5⟩
theorem ArcL.own {w : World} {B : Nat} {v : Value} {L : List (List Int)} (h : w.ownsRow B 147 2 v L.length (ints L.flatten)) (hs : ∀ s ∈ L, s.length = 2) : ArcL w v L := by
  obtain ⟨ao, c, hv, h1, h2⟩ := own_val h
  refine ⟨ao, c, hv, fun i hi => ?_⟩
  cases ao with
  | none => exact absurd (h2 rfl) (by omega)
  | some a =>
    subst hv
    obtain ⟨g, rfl, _, hg⟩ := h1 a rfl
    have hl := hs _ (List.getElem_mem hi)
    obtain ⟨x, y, e⟩ : ∃ x y, L[i] = [x, y] := by
      match L[i], hl with
      | [x, y], _ => exact ⟨x, y, rfl⟩
    have hc : ∀ j z, j < 2 → L[i][j]? = some z → w.cell? ⟨g, i * 2 + j, none⟩ = some (.int .i64 z) := fun j z hj hz => by
      rw [h.cellAt (i * 2 + j) (by omega)]
      exact flat_ints hs hi hj hz
    exact ⟨g, x, y, rfl, hg, e, hc 0 x (by omega) (by rw [e]; rfl), hc 1 y (by omega) (by rw [e]; rfl)⟩
theorem ArcsOk.two {n : Nat} {L : List (List Int)} (h : ArcsOk n L) : ∀ s ∈ L, s.length = 2 := fun s hs => by
  obtain ⟨a, b, rfl, _⟩ := h s hs; rfl

set_option maxRecDepth 100000 in
set_option maxHeartbeats 2000000 in
theorem held_any (L : List (List Int)) (v : Value) (a b : Int) (w : World) (hl : ArcL w v L) (hn : L.length ≤ 4000000) :
    Calls Tryz.prog 91 #[v, .int .i64 a, .int .i64 b] w fun e w' => e = .returned (.bool (decide ([a, b] ∈ L))) ∧ Below w.heap.size w w' := by
  obtain ⟨ao, c, rfl, hl⟩ := hl
  have HL := hid hl
  clear hl
  go_enter Tryz.func91, Tryz.ntmps91
  go_wp2_with fail
  go_loop [7] (fun i => ∃ k : Nat, k ≤ L.length ∧ i = .int .i64 k ∧ Hid (∀ j (h : j < L.length), j < k → L[j] ≠ [a, b])) (fun i => L.length - (intOf i).toNat)
  case atStart => exact ⟨0, Nat.zero_le _, rfl, fun j _ hj => absurd hj (by omega)⟩
  case round =>
    obtain ⟨k, hk, rfl, HK⟩ := hrel
    by_cases hlt : k < L.length
    · obtain ⟨g, x, y, rfl, hg, hxy, x0, y0⟩ := HL.out k hlt
      have ik : (0 : Int) ≤ (k : Int) := by omega
      have jk : (k : Int) < (L.length : Int) := by omega
      by_cases hx : x = a
      · have c1 : (x == a) = true := by simp [hx]
        by_cases hy : y = b
        · have c2 : (y == b) = true := by simp [hy]
          have HX : Hid (decide ([a, b] ∈ L) = true) := by show _ = _; rw [decide_eq_true_iff, ← hx, ← hy, ← hxy]; exact List.getElem_mem _
          clear hx hy hxy
          go_wp2_with go_in
          all_goals
            go_ret
            exact ⟨ret_bool HX.out.symm, Below.refl _ _⟩
        · have c2 : (y == b) = false := by simpa using hy
          have HN : Hid (∀ j (h : j < L.length), j < k + 1 → L[j] ≠ [a, b]) := fun j h hj => by
            by_cases e : j = k
            · subst e; rw [hxy]; intro e2; simp at e2; exact hy e2.2
            · exact HK.out j h (by omega)
          clear hx hy hxy
          go_wp2_with go_in
          go_round
          case rel => exact ⟨k + 1, by omega, by go_num, HN⟩
          case measure => simp [intOf]; omega
      · have c1 : (x == a) = false := by simpa using hx
        have HN : Hid (∀ j (h : j < L.length), j < k + 1 → L[j] ≠ [a, b]) := fun j h hj => by
          by_cases e : j = k
          · subst e; rw [hxy]; intro e2; simp at e2; exact hx e2.1
          · exact HK.out j h (by omega)
        clear hx hxy
        go_wp2_with go_in
        go_round
        case rel => exact ⟨k + 1, by omega, by go_num, HN⟩
        case measure => simp [intOf]; omega
    · have HX : Hid (decide ([a, b] ∈ L) = false) := by
        show _ = _
        rw [decide_eq_false_iff_not]
        intro hm
        obtain ⟨j, hj, e⟩ := List.mem_iff_getElem.1 hm
        exact HK.out j hj (by omega) e
      go_wp2_with go_in
      go_ret
      exact ⟨ret_bool HX.out.symm, Below.refl _ _⟩

set_option maxRecDepth 100000 in
set_option maxHeartbeats 4000000 in
theorem rival_any (L : List (List Int)) (v : Value) (a b : Nat) (w : World) (hl : ArcL w v L) (hn : L.length ≤ 4000000) (ha : a ≤ 7) (hb : b ≤ 7) :
    Calls Tryz.prog 178 #[v, .int .i64 a, .int .i64 b] w fun e w' => e = .returned (.bool (rivalB L a b)) ∧ Below w.heap.size w w' := by
  obtain ⟨ao, c, rfl, hl⟩ := hl
  have HL := hid hl
  clear hl
  obtain ⟨P, hP⟩ : ∃ P : Int → Int → Prop, P = fun x y => (a ≠ 0 ∧ x = (a : Int) ∧ y ≠ (b : Int)) ∨ (b ≠ 0 ∧ y = (b : Int) ∧ x ≠ (a : Int)) := ⟨_, rfl⟩
  have HT : Hid (∀ k (h : k < L.length) x y, L[k] = [x, y] → P x y → rivalB L a b = true) := fun k h x y e hp => by
    unfold rivalB
    rw [List.any_eq_true]
    refine ⟨L[k], List.getElem_mem _, ?_⟩
    rw [decide_eq_true_iff, e]
    rw [hP] at hp
    exact hp
  have HF : Hid ((∀ k (h : k < L.length), ∃ x y, L[k] = [x, y] ∧ ¬ P x y) → rivalB L a b = false) := fun h => by
    unfold rivalB
    rw [List.any_eq_false]
    intro q hq
    obtain ⟨k, hk, e⟩ := List.mem_iff_getElem.1 hq
    obtain ⟨x, y, e2, hp⟩ := h k hk
    rw [← e, e2, decide_eq_true_iff]
    rw [hP] at hp
    exact hp
  generalize rivalB L a b = ans at *
  have HP := hid hP
  clear hP
  go_enter Tryz.func178, Tryz.ntmps178
  go_wp2_with fail
  go_loopw [7] (fun i wr => ∃ k : Nat, k ≤ L.length ∧ i = .int .i64 k ∧ Hid (∀ j (h : j < L.length), j < k → ∃ x y, L[j] = [x, y] ∧ ¬ P x y) ∧ Hid (Below w.heap.size w wr)) (fun i _ => L.length - (intOf i).toNat)
  case atStart => exact ⟨0, Nat.zero_le _, rfl, fun j _ hj => absurd hj (by omega), Below.refl _ _⟩
  case round =>
    obtain ⟨k, hk, rfl, HK, HB⟩ := hrel
    by_cases hlt : k < L.length
    · obtain ⟨g, x, y, rfl, hg, hxy, x0, y0⟩ := HL.out k hlt
      have x1 : wr.cell? ⟨g, k * 2, none⟩ = _ := (HB.out.cell (by exact hg)).trans x0
      have y1 : wr.cell? ⟨g, k * 2 + 1, none⟩ = _ := (HB.out.cell (by exact hg)).trans y0
      have hgr : g < wr.heap.size := Nat.lt_of_lt_of_le hg HB.out.size
      have ik : (0 : Int) ≤ (k : Int) := by omega
      have jk : (k : Int) < (L.length : Int) := by omega
      have HPI : Hid (P x y ↔ ((a ≠ 0 ∧ x = (a : Int) ∧ y ≠ (b : Int)) ∨ (b ≠ 0 ∧ y = (b : Int) ∧ x ≠ (a : Int)))) := by show _ ↔ _; rw [HP.out]
      have HY : Hid (((a ≠ 0 ∧ x = (a : Int) ∧ y ≠ (b : Int)) ∨ (b ≠ 0 ∧ y = (b : Int) ∧ x ≠ (a : Int))) → ans = true) := fun hp => HT.out k hlt x y hxy (HPI.out.2 hp)
      have HN : Hid (¬ ((a ≠ 0 ∧ x = (a : Int) ∧ y ≠ (b : Int)) ∨ (b ≠ 0 ∧ y = (b : Int) ∧ x ≠ (a : Int))) → ∀ j (h : j < L.length), j < k + 1 → ∃ x y, L[j] = [x, y] ∧ ¬ P x y) := fun hp j h hj => by
        by_cases e : j = k
        · subst e; exact ⟨x, y, hxy, fun q => hp (HPI.out.1 q)⟩
        · exact HK.out j h (by omega)
      clear HPI
      have hbz := HB.out.size
      clear hxy x0 y0 HK
      by_cases ha0 : a = 0
      · have a1 : ¬ (0 : Int) < (a : Int) := by omega
        by_cases hb0 : b = 0
        · have b1 : ¬ (0 : Int) < (b : Int) := by omega
          by_cases hxa : x = a
          · have c1 : (x == (a : Int)) = true := by simp [hxa]
            have c2 : (x != (a : Int)) = false := by simp [hxa]
            by_cases hyb : y = b
            · have d1 : (y == (b : Int)) = true := by simp [hyb]
              have d2 : (y != (b : Int)) = false := by simp [hyb]
              have HX := hid (HN.out (fun h => by rcases h with h | h; exact h.1 ha0; exact h.1 hb0))
              clear HY HN
              clear hxa hyb ha0 hb0
              go_wp2_with go_in
              go_roundw
              case rel => exact ⟨k + 1, by omega, by go_num, HX, by first | exact HB.out.alloc hbz _ | exact HB.out⟩
              case measure => simp [intOf]; omega
            · have d1 : (y == (b : Int)) = false := by simpa using hyb
              have d2 : (y != (b : Int)) = true := by simpa using hyb
              have HX := hid (HN.out (fun h => by rcases h with h | h; exact h.1 ha0; exact h.1 hb0))
              clear HY HN
              clear hxa hyb ha0 hb0
              go_wp2_with go_in
              go_roundw
              case rel => exact ⟨k + 1, by omega, by go_num, HX, by first | exact HB.out.alloc hbz _ | exact HB.out⟩
              case measure => simp [intOf]; omega
          · have c1 : (x == (a : Int)) = false := by simpa using hxa
            have c2 : (x != (a : Int)) = true := by simpa using hxa
            by_cases hyb : y = b
            · have d1 : (y == (b : Int)) = true := by simp [hyb]
              have d2 : (y != (b : Int)) = false := by simp [hyb]
              have HX := hid (HN.out (fun h => by rcases h with h | h; exact h.1 ha0; exact h.1 hb0))
              clear HY HN
              clear hxa hyb ha0 hb0
              go_wp2_with go_in
              go_roundw
              case rel => exact ⟨k + 1, by omega, by go_num, HX, by first | exact HB.out.alloc hbz _ | exact HB.out⟩
              case measure => simp [intOf]; omega
            · have d1 : (y == (b : Int)) = false := by simpa using hyb
              have d2 : (y != (b : Int)) = true := by simpa using hyb
              have HX := hid (HN.out (fun h => by rcases h with h | h; exact h.1 ha0; exact h.1 hb0))
              clear HY HN
              clear hxa hyb ha0 hb0
              go_wp2_with go_in
              go_roundw
              case rel => exact ⟨k + 1, by omega, by go_num, HX, by first | exact HB.out.alloc hbz _ | exact HB.out⟩
              case measure => simp [intOf]; omega
        · have b1 : (0 : Int) < (b : Int) := by omega
          by_cases hxa : x = a
          · have c1 : (x == (a : Int)) = true := by simp [hxa]
            have c2 : (x != (a : Int)) = false := by simp [hxa]
            by_cases hyb : y = b
            · have d1 : (y == (b : Int)) = true := by simp [hyb]
              have d2 : (y != (b : Int)) = false := by simp [hyb]
              have HX := hid (HN.out (fun h => by rcases h with h | h; exact h.1 ha0; exact h.2.2 hxa))
              clear HY HN
              clear hxa hyb ha0 hb0
              go_wp2_with go_in
              go_roundw
              case rel => exact ⟨k + 1, by omega, by go_num, HX, by first | exact HB.out.alloc hbz _ | exact HB.out⟩
              case measure => simp [intOf]; omega
            · have d1 : (y == (b : Int)) = false := by simpa using hyb
              have d2 : (y != (b : Int)) = true := by simpa using hyb
              have HX := hid (HN.out (fun h => by rcases h with h | h; exact h.1 ha0; exact hyb h.2.1))
              clear HY HN
              clear hxa hyb ha0 hb0
              go_wp2_with go_in
              go_roundw
              case rel => exact ⟨k + 1, by omega, by go_num, HX, by first | exact HB.out.alloc hbz _ | exact HB.out⟩
              case measure => simp [intOf]; omega
          · have c1 : (x == (a : Int)) = false := by simpa using hxa
            have c2 : (x != (a : Int)) = true := by simpa using hxa
            by_cases hyb : y = b
            · have d1 : (y == (b : Int)) = true := by simp [hyb]
              have d2 : (y != (b : Int)) = false := by simp [hyb]
              have HX := hid (HY.out (.inr ⟨hb0, hyb, hxa⟩))
              clear HY HN
              clear hxa hyb ha0 hb0
              go_wp2_with go_in
              all_goals
                go_ret
                exact ⟨ret_bool HX.out.symm, by first | exact HB.out.alloc hbz _ | exact HB.out⟩
            · have d1 : (y == (b : Int)) = false := by simpa using hyb
              have d2 : (y != (b : Int)) = true := by simpa using hyb
              have HX := hid (HN.out (fun h => by rcases h with h | h; exact h.1 ha0; exact hyb h.2.1))
              clear HY HN
              clear hxa hyb ha0 hb0
              go_wp2_with go_in
              go_roundw
              case rel => exact ⟨k + 1, by omega, by go_num, HX, by first | exact HB.out.alloc hbz _ | exact HB.out⟩
              case measure => simp [intOf]; omega
      · have a1 : (0 : Int) < (a : Int) := by omega
        by_cases hb0 : b = 0
        · have b1 : ¬ (0 : Int) < (b : Int) := by omega
          by_cases hxa : x = a
          · have c1 : (x == (a : Int)) = true := by simp [hxa]
            have c2 : (x != (a : Int)) = false := by simp [hxa]
            by_cases hyb : y = b
            · have d1 : (y == (b : Int)) = true := by simp [hyb]
              have d2 : (y != (b : Int)) = false := by simp [hyb]
              have HX := hid (HN.out (fun h => by rcases h with h | h; exact h.2.2 hyb; exact h.1 hb0))
              clear HY HN
              clear hxa hyb ha0 hb0
              go_wp2_with go_in
              go_roundw
              case rel => exact ⟨k + 1, by omega, by go_num, HX, by first | exact HB.out.alloc hbz _ | exact HB.out⟩
              case measure => simp [intOf]; omega
            · have d1 : (y == (b : Int)) = false := by simpa using hyb
              have d2 : (y != (b : Int)) = true := by simpa using hyb
              have HX := hid (HY.out (.inl ⟨ha0, hxa, hyb⟩))
              clear HY HN
              clear hxa hyb ha0 hb0
              go_wp2_with go_in
              all_goals
                go_ret
                exact ⟨ret_bool HX.out.symm, by first | exact HB.out.alloc hbz _ | exact HB.out⟩
          · have c1 : (x == (a : Int)) = false := by simpa using hxa
            have c2 : (x != (a : Int)) = true := by simpa using hxa
            by_cases hyb : y = b
            · have d1 : (y == (b : Int)) = true := by simp [hyb]
              have d2 : (y != (b : Int)) = false := by simp [hyb]
              have HX := hid (HN.out (fun h => by rcases h with h | h; exact hxa h.2.1; exact h.1 hb0))
              clear HY HN
              clear hxa hyb ha0 hb0
              go_wp2_with go_in
              go_roundw
              case rel => exact ⟨k + 1, by omega, by go_num, HX, by first | exact HB.out.alloc hbz _ | exact HB.out⟩
              case measure => simp [intOf]; omega
            · have d1 : (y == (b : Int)) = false := by simpa using hyb
              have d2 : (y != (b : Int)) = true := by simpa using hyb
              have HX := hid (HN.out (fun h => by rcases h with h | h; exact hxa h.2.1; exact h.1 hb0))
              clear HY HN
              clear hxa hyb ha0 hb0
              go_wp2_with go_in
              go_roundw
              case rel => exact ⟨k + 1, by omega, by go_num, HX, by first | exact HB.out.alloc hbz _ | exact HB.out⟩
              case measure => simp [intOf]; omega
        · have b1 : (0 : Int) < (b : Int) := by omega
          by_cases hxa : x = a
          · have c1 : (x == (a : Int)) = true := by simp [hxa]
            have c2 : (x != (a : Int)) = false := by simp [hxa]
            by_cases hyb : y = b
            · have d1 : (y == (b : Int)) = true := by simp [hyb]
              have d2 : (y != (b : Int)) = false := by simp [hyb]
              have HX := hid (HN.out (fun h => by rcases h with h | h; exact h.2.2 hyb; exact h.2.2 hxa))
              clear HY HN
              clear hxa hyb ha0 hb0
              go_wp2_with go_in
              go_roundw
              case rel => exact ⟨k + 1, by omega, by go_num, HX, by first | exact HB.out.alloc hbz _ | exact HB.out⟩
              case measure => simp [intOf]; omega
            · have d1 : (y == (b : Int)) = false := by simpa using hyb
              have d2 : (y != (b : Int)) = true := by simpa using hyb
              have HX := hid (HY.out (.inl ⟨ha0, hxa, hyb⟩))
              clear HY HN
              clear hxa hyb ha0 hb0
              go_wp2_with go_in
              all_goals
                go_ret
                exact ⟨ret_bool HX.out.symm, by first | exact HB.out.alloc hbz _ | exact HB.out⟩
          · have c1 : (x == (a : Int)) = false := by simpa using hxa
            have c2 : (x != (a : Int)) = true := by simpa using hxa
            by_cases hyb : y = b
            · have d1 : (y == (b : Int)) = true := by simp [hyb]
              have d2 : (y != (b : Int)) = false := by simp [hyb]
              have HX := hid (HY.out (.inr ⟨hb0, hyb, hxa⟩))
              clear HY HN
              clear hxa hyb ha0 hb0
              go_wp2_with go_in
              all_goals
                go_ret
                exact ⟨ret_bool HX.out.symm, by first | exact HB.out.alloc hbz _ | exact HB.out⟩
            · have d1 : (y == (b : Int)) = false := by simpa using hyb
              have d2 : (y != (b : Int)) = true := by simpa using hyb
              have HX := hid (HN.out (fun h => by rcases h with h | h; exact hxa h.2.1; exact hyb h.2.1))
              clear HY HN
              clear hxa hyb ha0 hb0
              go_wp2_with go_in
              go_roundw
              case rel => exact ⟨k + 1, by omega, by go_num, HX, by first | exact HB.out.alloc hbz _ | exact HB.out⟩
              case measure => simp [intOf]; omega
    · have HX := hid (HF.out (fun j h => HK.out j h (by omega)))
      go_wp2_with go_in
      go_ret
      exact ⟨ret_bool HX.out.symm, HB.out⟩
end Go.Proofs.YtebinaopncclgaaGreatDoor
namespace Go.Proofs.YtebinaopncclgaaGreatDoor
open Go.RowKit Go.IntWalk

theorem Tryz.infoArc : (Tryz.prog.info? 147).map (fun i => (i.zero, i.size, i.bytes)) = some (some (.agg #[.int .i64 0, .int .i64 0]), 2, 16) := by kernel_rfl
theorem ints2 (a b : Int) : ∀ u ∈ [Value.int .i64 a, .int .i64 b], u.oneCell' = true := by intro u hu; simp at hu; rcases hu with rfl | rfl <;> rfl

set_option maxRecDepth 100000 in
set_option maxHeartbeats 4000000 in
theorem rarcs_any (n : Nat) (s : ByteArray) (w : World) (hn : n ≤ 7) (hs : s.size ≤ maxLen) :
    Calls Tryz.prog 90 #[.string s, .int .i64 ((n : Int) + 1)] w fun e w' => (arcsS n s.data.toList = none → e = .returned (.tuple #[.slice none 0 0, .bool false])) ∧ (∀ L, arcsS n s.data.toList = some L → ∃ v, e = .returned (.tuple #[v, .bool true]) ∧ w'.ownsRow w.heap.size 147 2 v L.length (ints L.flatten)) ∧ Below w.heap.size w w' := by
  obtain ⟨i0, hi, hz0, hz1, hz2⟩ := info_parts Tryz.infoArc
  unfold maxLen at hs
  have hlen : s.data.toList.length = s.size := by simp
  have HG : Hid (∀ i (h : i < s.size), arcX s.data.toList i = (s[i].toNat : Int) - 48) := fun i hi => by unfold arcX; rw [List.getD_eq_getElem?_getD, List.getElem?_eq_getElem (by omega)]; rfl
  have HOD : Hid (s.size % 2 ≠ 0 → arcsS n s.data.toList = none) := fun h => by unfold arcsS; rw [hlen, if_pos h]
  have HEV : Hid (s.size % 2 = 0 → arcsS n s.data.toList = arcsD n s.data.toList (s.size / 2)) := fun h => by unfold arcsS; rw [hlen, if_neg (by omega)]
  have HNO : Hid (∀ k, 2 * k < s.size → arcsD n s.data.toList (k + 1) = none → arcsS n s.data.toList = none) := fun k hk h => by
    by_cases hp : s.size % 2 = 0
    · rw [HEV.out hp]
      have h3 := arcsD_none n s.data.toList (k + 1) (s.size / 2 - (k + 1)) h
      rw [show k + 1 + (s.size / 2 - (k + 1)) = s.size / 2 by omega] at h3
      exact h3
    · exact HOD.out hp
  clear hlen
  go_enter Tryz.func90, Tryz.ntmps90
  go_wp2_with fail
  go_loopw [6, 7] (fun ov i wr => ∃ (k : Nat) (L : List (List Int)), 2 * k ≤ s.size ∧ i = .int .i64 (2 * k : Nat) ∧ Hid (L.length = k) ∧ Hid (arcsD n s.data.toList k = some L) ∧ Hid (wr.ownsRow w.heap.size 147 2 ov k (ints L.flatten)) ∧ Hid (Below w.heap.size w wr)) (fun _ i _ => s.size - (intOf i).toNat)
  case atStart => exact ⟨0, [], by omega, rfl, rfl, rfl, World.ownsRow_nil _ _ _ _, Below.refl _ _⟩
  case round =>
    obtain ⟨k, L, hk, rfl, HLK, HK, HO, HB⟩ := hrel
    have hbz := HB.out.size
    have hk64 : k ≤ 64 := by have h1 := arcsD_few hn HK.out; have h2 := HLK.out; omega
    obtain ⟨ao, co, rfl, _, _⟩ := own_val HO.out
    by_cases hlt : 2 * k < s.size
    · by_cases hodd : 2 * k + 1 = s.size
      · have HX := hid (HOD.out (by omega))
        have c0 : ((2 : Int) * (k : Int) + 1 == (s.size : Int)) = true := by simp; omega
        go_wp2_with go_in
        refine bodyPost_ret (v := .tuple #[.slice none 0 0, .bool false]) (by simp [results, Tryz.results90, go_sem]) rfl ?_
        exact ⟨fun _ => rfl, fun L e => (by rw [HX.out] at e; cases e), HB.out⟩
      · have hi1 : 2 * k + 1 < s.size := by omega
        have c0 : ((2 : Int) * (k : Int) + 1 == (s.size : Int)) = false := by simp; omega
        have hb0 : s[2 * k].toNat < 256 := s[2 * k].toNat_lt
        have hb1 : s[2 * k + 1].toNat < 256 := s[2 * k + 1].toNat_lt
        have HAR : Hid (ArcL wr (.slice ao k co) L) := ArcL.own (by rw [HLK.out]; exact HO.out) (arcsD_ok HK.out).1.two
        obtain ⟨x, hx⟩ : ∃ x : Int, x = (s[2 * k].toNat : Int) - 48 := ⟨_, rfl⟩
        obtain ⟨y, hy⟩ : ∃ y : Int, y = (s[2 * k + 1].toNat : Int) - 48 := ⟨_, rfl⟩
        have HN : Hid (arcsD n s.data.toList (k + 1) = if isArcP n x y ∧ [x, y] ∉ L then some (L ++ [[x, y]]) else none) := by
          show _ = _
          have h1 := HG.out (2 * k) hlt
          have h2 := HG.out (2 * k + 1) hi1
          conv => lhs; unfold arcsD
          rw [HK.out, h1, h2, ← hx, ← hy]
        have HC := hid (held_any L (.slice ao k co) x y wr HAR.out (by rw [HLK.out]; omega))
        have HNK := hid (HNO.out k hlt)
        have hi2 : (2 : Int) * (k : Int) + 1 < (s.size : Int) := by omega
        have hi3 : (2 : Int) * (k : Int) < (s.size : Int) := by omega
        have hxb : -48 ≤ x ∧ x < 256 := by omega
        have hyb : -48 ≤ y ∧ y < 256 := by omega
        have HHX := hid hx
        have HHY := hid hy
        clear HK hodd HNO HOD HEV HAR
        generalize hag : decide ([x, y] ∈ L) = ag at HC
        rw [hx, hy] at HC
        by_cases hx0 : ((s[2 * k].toNat : Int) - 48) < 0
        · have HX := hid (HNK.out (by rw [HN.out, if_neg (fun h => absurd h.1.1.1 (by omega))]))
          clear HN HNK hx hy
          go_wp2_with fail
          refine HC.out.mono ?_
          rintro e1 w1 ⟨rfl, hb1⟩
          have HB1 : Hid (Below w.heap.size w w1) := HB.out.trans (hb1.mono hbz)
          clear hb1
          go_wp2_with go_in
          refine bodyPost_ret (v := .tuple #[.slice none 0 0, .bool false]) (by simp [results, Tryz.results90, go_sem]) rfl ?_
          exact ⟨fun _ => rfl, fun L e => (by rw [HX.out] at e; cases e), HB1.out⟩
        · by_cases hy0 : ((s[2 * k + 1].toNat : Int) - 48) < 0
          · have HX := hid (HNK.out (by rw [HN.out, if_neg (fun h => absurd h.1.2.1.1 (by omega))]))
            clear HN HNK hx hy
            go_wp2_with fail
            refine HC.out.mono ?_
            rintro e1 w1 ⟨rfl, hb1⟩
            have HB1 : Hid (Below w.heap.size w w1) := HB.out.trans (hb1.mono hbz)
            clear hb1
            go_wp2_with go_in
            refine bodyPost_ret (v := .tuple #[.slice none 0 0, .bool false]) (by simp [results, Tryz.results90, go_sem]) rfl ?_
            exact ⟨fun _ => rfl, fun L e => (by rw [HX.out] at e; cases e), HB1.out⟩
          · by_cases hx1 : (n : Int) + 1 ≤ ((s[2 * k].toNat : Int) - 48)
            · have HX := hid (HNK.out (by rw [HN.out, if_neg (fun h => absurd h.1.1.2 (by omega))]))
              clear HN HNK hx hy
              go_wp2_with fail
              refine HC.out.mono ?_
              rintro e1 w1 ⟨rfl, hb1⟩
              have HB1 : Hid (Below w.heap.size w w1) := HB.out.trans (hb1.mono hbz)
              clear hb1
              go_wp2_with go_in
              refine bodyPost_ret (v := .tuple #[.slice none 0 0, .bool false]) (by simp [results, Tryz.results90, go_sem]) rfl ?_
              exact ⟨fun _ => rfl, fun L e => (by rw [HX.out] at e; cases e), HB1.out⟩
            · by_cases hy1 : (n : Int) + 1 ≤ ((s[2 * k + 1].toNat : Int) - 48)
              · have HX := hid (HNK.out (by rw [HN.out, if_neg (fun h => absurd h.1.2.1.2 (by omega))]))
                clear HN HNK hx hy
                go_wp2_with fail
                refine HC.out.mono ?_
                rintro e1 w1 ⟨rfl, hb1⟩
                have HB1 : Hid (Below w.heap.size w w1) := HB.out.trans (hb1.mono hbz)
                clear hb1
                go_wp2_with go_in
                refine bodyPost_ret (v := .tuple #[.slice none 0 0, .bool false]) (by simp [results, Tryz.results90, go_sem]) rfl ?_
                exact ⟨fun _ => rfl, fun L e => (by rw [HX.out] at e; cases e), HB1.out⟩
              · by_cases hxy : ((s[2 * k].toNat : Int) - 48) = ((s[2 * k + 1].toNat : Int) - 48)
                · have c3 : (((s[2 * k].toNat : Int) - 48) == ((s[2 * k + 1].toNat : Int) - 48)) = true := by simp [hxy]
                  have c4 : ((s[2 * k].toNat : Int) == (s[2 * k + 1].toNat : Int)) = true := by simp; omega
                  have HX := hid (HNK.out (by rw [HN.out, if_neg (fun h => h.1.2.2 (by omega))]))
                  clear HN HNK hx hy hxy
                  go_wp2_with fail
                  refine HC.out.mono ?_
                  rintro e1 w1 ⟨rfl, hb1⟩
                  have HB1 : Hid (Below w.heap.size w w1) := HB.out.trans (hb1.mono hbz)
                  clear hb1
                  go_wp2_with go_in
                  refine bodyPost_ret (v := .tuple #[.slice none 0 0, .bool false]) (by simp [results, Tryz.results90, go_sem]) rfl ?_
                  exact ⟨fun _ => rfl, fun L e => (by rw [HX.out] at e; cases e), HB1.out⟩
                · have c3 : (((s[2 * k].toNat : Int) - 48) == ((s[2 * k + 1].toNat : Int) - 48)) = false := by simp; omega
                  have c4 : ((s[2 * k].toNat : Int) == (s[2 * k + 1].toNat : Int)) = false := by simp; omega
                  cases ag
                  · have hm : [x, y] ∉ L := of_decide_eq_false hag
                    have HX : Hid (arcsD n s.data.toList (k + 1) = some (L ++ [[x, y]])) := by show _ = _; rw [HN.out, if_pos ⟨⟨⟨by omega, by omega⟩, ⟨by omega, by omega⟩, by omega⟩, hm⟩]
                    have HLM : Hid ((L ++ [[x, y]]).length = k + 1) := by show _ = _; rw [List.length_append, HLK.out]; rfl
                    have HF : Hid (ints (L ++ [[x, y]]).flatten = ints L.flatten ++ [.int .i64 ((s[2 * k].toNat : Int) - 48), .int .i64 ((s[2 * k + 1].toNat : Int) - 48)]) := by show _ = _; rw [HHX.out, HHY.out]; simp [ints]
                    obtain ⟨M, hM⟩ : ∃ M, M = L ++ [[x, y]] := ⟨_, rfl⟩
                    rw [← hM] at HX HF HLM
                    clear HN HNK hm hag hM hx hy
                    go_wp2_with fail
                    refine HC.out.mono ?_
                    rintro e1 w1 ⟨rfl, hb1⟩
                    have HB1 : Hid (Below w.heap.size w w1) := HB.out.trans (hb1.mono hbz)
                    have HO1 := hid (own_below HO.out hb1)
                    have hbz1 := HB1.out.size
                    clear hb1 HO HB
                    go_wp2_with (first
                      | (at_builtin; refine wpList_append_own _ rfl _ _ 142 rfl w.heap.size 147 i0 (.agg #[.int .i64 0, .int .i64 0]) 2 16 Tryz.underlying142 hi hz0 hz1 hz2 rfl (by decide) _ _ _ rfl (HO1.out.alloc _) ⟨w1.heap.size, 0, none⟩ 1 1 [.int .i64 ((s[2 * k].toNat : Int) - 48), .int .i64 ((s[2 * k + 1].toNat : Int) - 48)] rfl rfl ?c1 ?c2 ?c3 ?c4 ?c5 ?_)
                      | go_in)
                    case c1 => exact news_at rfl rfl
                    case c2 => exact ints2 _ _
                    case c3 => unfold maxLen; omega
                    case c4 => omega
                    case c5 => simp; omega
                    intro v2 w2 hown2 hgr2 _
                    have hgg : (w1.alloc (.cells #[.int .i64 ((s[2 * k].toNat : Int) - 48), .int .i64 ((s[2 * k + 1].toNat : Int) - 48)] 147)).grownBy w2 (Value.slice ao k co).ownBlock := hgr2
                    have HO2 : Hid (w2.ownsRow w.heap.size 147 2 v2 (k + 1) (ints M.flatten)) := by
                      show World.ownsRow _ _ _ _ _ _ _
                      rw [HF.out]; exact hown2
                    have HB2 : Hid (Below w.heap.size w w2) := (HB1.out.trans ((below1 w1 _).mono hbz1)).grown hgg (by simp; omega) (fun x hx => (HO1.out.lt x hx).1)
                    clear hown2 hgr2 hgg HO1 HB1
                    go_wp2
                    go_roundw
                    case rel => exact ⟨k + 1, M, by omega, by go_num, HLM, HX, HO2, HB2⟩
                    case measure => simp [intOf]; omega
                  · have HX := hid (HNK.out (by rw [HN.out, if_neg (fun h => h.2 (of_decide_eq_true hag))]))
                    clear HN HNK hx hy
                    go_wp2_with fail
                    refine HC.out.mono ?_
                    rintro e1 w1 ⟨rfl, hb1⟩
                    have HB1 : Hid (Below w.heap.size w w1) := HB.out.trans (hb1.mono hbz)
                    clear hb1
                    go_wp2_with go_in
                    refine bodyPost_ret (v := .tuple #[.slice none 0 0, .bool false]) (by simp [results, Tryz.results90, go_sem]) rfl ?_
                    exact ⟨fun _ => rfl, fun L e => (by rw [HX.out] at e; cases e), HB1.out⟩
    · have HX : Hid (arcsS n s.data.toList = some L) := by
        show _ = _
        rw [HEV.out (by omega), show s.size / 2 = k by omega]; exact HK.out
      go_wp2_with go_in
      refine bodyPost_ret (v := .tuple #[.slice ao k co, .bool true]) (by simp [results, Tryz.results90, go_sem]) rfl ?_
      exact ⟨fun e => (by rw [HX.out] at e; cases e), fun L' e => (by rw [HX.out] at e; cases e; exact ⟨_, rfl, by rw [HLK.out]; exact HO.out⟩), HB.out⟩
end Go.Proofs.YtebinaopncclgaaGreatDoor
