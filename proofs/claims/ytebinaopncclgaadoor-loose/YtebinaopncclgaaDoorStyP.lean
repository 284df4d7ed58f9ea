/- Plain mathematics of the seat: a text in whatever style is parsed as the instance. No program in sight. -/
import Derived.Test.YtebinaopncclgaaDoorPlainJ
import Derived.Test.YtebinaopncclgaaDoorSty
namespace Go.Proofs.YtebinaopncclgaaDoor
open Go.RowKit

theorem digs_noughts (n : Nat) : digs (List.replicate n 48) = true := by
  unfold digs; rw [List.all_eq_true]; intro c hc
  rw [List.eq_of_mem_replicate hc]; decide
theorem val_noughts (n : Nat) (d : List UInt8) : val (List.replicate n 48 ++ d) = val d := by
  unfold val; rw [List.foldl_append]
  congr 1
  induction n with
  | zero => rfl
  | succ n ih => rw [List.replicate_succ, List.foldl_cons]; exact ih
theorem pad_digs (b : Bool) (n : Nat) : digs (padD b (decS n)) = true := by
  unfold padD; split
  · rw [digs_append, digs_noughts]; exact decF_digs 5 n
  · exact decF_digs 5 n
theorem pad_ne (b : Bool) (n : Nat) : padD b (decS n) ≠ [] := by
  have := dec_ne n
  unfold padD; split
  · simp [this]
  · exact this
theorem pad_ok (b : Bool) {n : Nat} (h : n ≤ 99999) : numOk (padD b (decS n)) = true ∧ numV (padD b (decS n)) = n := by
  have hl := decF_len 5 n 5 (by omega) (by omega)
  have hl' : 1 ≤ (decS n).length ∧ (decS n).length ≤ 5 := hl
  have h1 : numOk (padD b (decS n)) = true := by
    refine numOk_of ?_ ?_ (pad_digs b n)
    · unfold padD; split
      · simp; omega
      · exact hl'.1
    · unfold padD; split
      · simp; omega
      · exact hl'.2
  refine ⟨h1, ?_⟩
  rw [numV_yes h1]
  have e : val (padD b (decS n)) = val (decS n) := by
    unfold padD; split
    · exact val_noughts _ _
    · rfl
  rw [e]; unfold decS; rw [decF_val 5 n (by omega)]

/- fields -/
theorem spf_wrdsG (s : Sty) (zs : List Int) : ∀ m P C, C ≠ [] → ∃ P' C', (wrdsG s zs m).foldl stepF (P, C) = (P', C') ∧ C' ≠ [] ∧ P' ++ [C'] = P ++ C :: (List.range m).map fun i => padD s.b1 (decS (zs.getD i 0).toNat) := by
  intro m
  induction m with
  | zero => intro P C hC; exact ⟨P, C, by simp [wrdsG], hC, by simp⟩
  | succ m ih =>
    intro P C hC
    obtain ⟨P', C', h3, h4, h5⟩ := ih P C hC
    refine ⟨P' ++ [C'], padD s.b1 (decS (zs.getD m 0).toNat), ?_, pad_ne _ _, ?_⟩
    · show (wrdsG s zs m ++ 32 :: (gap s.b2 m ++ padD s.b1 (decS (zs.getD m 0).toNat))).foldl stepF (P, C) = _
      have h1 : stepF (P', C') 32 = (P' ++ [C'], []) := by unfold stepF; rw [if_pos rfl, if_neg h4]
      have h2 : (gap s.b2 m).foldl stepF (P' ++ [C'], []) = (P' ++ [C'], []) := by
        unfold gap; split
        · simp [stepF]
        · rfl
      rw [List.foldl_append, h3, List.foldl_cons, h1, List.foldl_append, h2, spf_plain _ (digs_no (pad_digs _ _) (by decide)), List.nil_append]
    · rw [h5, List.range_succ]; simp
theorem flds_body (s : Sty) (k : UInt8) (zs : List Int) (hk : k ≠ 32) : flds (bodyG s [k] zs) = [k] :: zs.map fun z => padD s.b1 (decS z.toNat) := by
  obtain ⟨P', C', h3, h4, h5⟩ := spf_wrdsG s zs zs.length [] [k] (by simp)
  have e0 : (sp s.b0).foldl stepF (([] : List (List UInt8)), []) = ([], []) := by
    unfold sp; split
    · simp [stepF]
    · rfl
  have e1 : ([k] : List UInt8).foldl stepF (([] : List (List UInt8)), []) = ([], [k]) := by
    rw [spf_plain [k] (by simpa using fun e => hk e.symm)]; rfl
  have e : spf (bodyG s [k] zs) = (sp s.b3).foldl stepF (P', C') := by
    unfold spf bodyG; rw [List.foldl_append, List.foldl_append, List.foldl_append, e0, e1, h3]
  have em : (List.range zs.length).map (fun i => padD s.b1 (decS (zs.getD i 0).toNat)) = zs.map fun z => padD s.b1 (decS z.toNat) := by
    apply List.ext_getElem
    · simp
    · intro i h1 h2; simp at h1 h2; simp [h1]
  rw [em] at h5
  unfold flds
  rw [e]
  unfold sp
  split
  · have h1 : ([32] : List UInt8).foldl stepF (P', C') = (P' ++ [C'], []) := by simp only [List.foldl_cons, List.foldl_nil]; unfold stepF; rw [if_pos rfl, if_neg h4]
    rw [h1, if_pos rfl]; exact h5
  · show (if C' = [] then P' else P' ++ [C']) = _
    rw [if_neg h4]; exact h5
theorem nums_ofG (b : Bool) {zs : List Int} (h : ∀ z ∈ zs, small z) : (zs.map fun z => padD b (decS z.toNat)).all numOk = true ∧ (zs.map fun z => padD b (decS z.toNat)).map numV = zs := by
  constructor
  · rw [List.all_eq_true]; intro l hl
    obtain ⟨z, hz, rfl⟩ := List.mem_map.1 hl
    have := h z hz; unfold small at this
    exact (pad_ok b (by omega)).1
  · rw [List.map_map]
    refine (List.map_congr_left (g := id) fun z hz => ?_).trans (List.map_id zs)
    have := h z hz; unfold small at this
    simp only [Function.comp, id]
    rw [(pad_ok b (by omega)).2]; omega
theorem line_ofG (s : Sty) (r : Rd) (k : UInt8) (zs : List Int) (hk : k ≠ 32) (h : ∀ z ∈ zs, small z) : rdLine r (bodyG s [k] zs) = rdVals r [k] zs := by
  have := nums_ofG s.b1 h
  unfold rdLine
  rw [flds_body s k zs hk]
  simp only []
  rw [if_pos this.1, this.2]

/- lines -/
def bods (s : Sty) (k : UInt8) (zs : List Int) : List (List UInt8) := bodyG s [k] zs :: (if s.b4 = true then [[32]] else [])
def bodsL (s : Sty) (l : List (UInt8 × List Int)) : List (List UInt8) := (l.map fun p => bods s p.1 p.2).flatten
theorem line_bods (s : Sty) (k : UInt8) (zs : List Int) : lineG s [k] zs = ((bods s k zs).map (· ++ [10])).flatten := by
  unfold lineG bods more
  cases s.b4 <;> simp
theorem items_bods (s : Sty) (l : List (UInt8 × List Int)) : itemsL s l = ((bodsL s l).map (· ++ [10])).flatten := by
  induction l with
  | nil => rfl
  | cons p t ih =>
    have e : bodsL s (p :: t) = bods s p.1 p.2 ++ bodsL s t := by simp [bodsL]
    have e' : itemsL s (p :: t) = lineG s [p.1] p.2 ++ itemsL s t := by simp [itemsL, itemL]
    rw [e, e', ih, line_bods, List.map_append, List.flatten_append]
theorem wrdsG_no10 (s : Sty) (zs : List Int) (m : Nat) : (10 : UInt8) ∉ wrdsG s zs m := by
  induction m with
  | zero => simp [wrdsG]
  | succ m ih =>
    intro h
    have h' : (10 : UInt8) ∈ wrdsG s zs m ++ 32 :: (gap s.b2 m ++ padD s.b1 (decS (zs.getD m 0).toNat)) := h
    simp only [List.mem_append, List.mem_cons] at h'
    rcases h' with h' | h' | h' | h'
    · exact ih h'
    · exact absurd h' (by decide)
    · unfold gap at h'; split at h'
      · simp at h'
      · simp at h'
    · exact digs_no (pad_digs _ _) (by decide) h'
theorem sp_no10 (b : Bool) : (10 : UInt8) ∉ sp b := by cases b <;> simp [sp]
theorem bods_no10 (s : Sty) (k : UInt8) (zs : List Int) (hk : k ≠ 10) : ∀ b ∈ bods s k zs, (10 : UInt8) ∉ b := by
  intro b hb h
  unfold bods at hb
  simp only [List.mem_cons] at hb
  rcases hb with rfl | hb
  · unfold bodyG at h
    simp only [List.mem_append, List.mem_singleton] at h
    rcases h with ((h | h) | h) | h
    · exact sp_no10 _ h
    · exact hk h.symm
    · exact wrdsG_no10 _ _ _ h
    · exact sp_no10 _ h
  · split at hb
    · simp only [List.mem_singleton] at hb; subst hb; simp at h
    · simp at hb

/- an item that may be -/
def itOk (N : Int) (p : UInt8 × List Int) : Prop := (p.1 = 83 ∧ ∃ a b c d e, p.2 = [a, b, c, d, e] ∧ stopOk a b c d e N = true ∧ ∀ z ∈ p.2, small z) ∨ (p.1 = 82 ∧ ∃ a b c, p.2 = [a, b, c] ∧ roadOk a b c N = true ∧ ∀ z ∈ p.2, small z)
def stopsOf (l : List (UInt8 × List Int)) : List (List Int) := (l.filter fun p => p.1 == 83).map (·.2)
def roadsOf (l : List (UInt8 × List Int)) : List (List Int) := (l.filter fun p => p.1 == 82).map (·.2)
theorem blank_line (r : Rd) : rdLine r [32] = (r, 0) := rfl
theorem go_bods (s : Sty) (k : UInt8) (zs : List Int) (r r' : Rd) (i : Nat) (t : List (List UInt8)) (h : rdLine r (bodyG s [k] zs) = (r', 0)) : ∃ i', rdGo r i (bods s k zs ++ t) = rdGo r' i' t := by
  unfold bods
  rw [List.cons_append]
  cases s.b4
  · refine ⟨i + 1, ?_⟩
    show (if _ then _ else _) = _
    rw [h, if_pos rfl]; rfl
  · refine ⟨i + 1 + 1, ?_⟩
    show (if _ then _ else _) = _
    rw [h, if_pos rfl]
    show (if (rdLine r' [32]).2 = 0 then _ else _) = _
    rw [blank_line, if_pos rfl]; rfl
theorem go_items (s : Sty) (l : List (UInt8 × List Int)) : ∀ (r : Rd) (i : Nat) (t : List (List UInt8)), r.head = true → (∀ p ∈ l, itOk r.nodes p) → r.stops.length + (stopsOf l).length ≤ 7 → r.roads.length + (roadsOf l).length ≤ 40 →
    ∃ i', rdGo r i (bodsL s l ++ t) = rdGo { r with stops := r.stops ++ stopsOf l, roads := r.roads ++ roadsOf l } i' t := by
  induction l with
  | nil => intro r i t _ _ _ _; exact ⟨i, by simp [bodsL, stopsOf, roadsOf]⟩
  | cons p q ih =>
    intro r i t hh hp hs hr
    have e : bodsL s (p :: q) ++ t = bods s p.1 p.2 ++ (bodsL s q ++ t) := by simp [bodsL]
    rw [e]
    rcases hp p (by simp) with ⟨hk, a, b, c, d, f, hz, hok, hsm⟩ | ⟨hk, a, b, c, hz, hok, hsm⟩
    · obtain ⟨k, zs⟩ := p
      simp only at hk hz hsm; subst hk; subst hz
      have es : stopsOf (((83 : UInt8), [a, b, c, d, f]) :: q) = [a, b, c, d, f] :: stopsOf q := by simp [stopsOf]
      have er : roadsOf (((83 : UInt8), [a, b, c, d, f]) :: q) = roadsOf q := by simp [roadsOf]
      rw [es] at hs ⊢; rw [er] at hr ⊢
      have hv : rdLine r (bodyG s [83] [a, b, c, d, f]) = ({ r with stops := r.stops ++ [[a, b, c, d, f]] }, 0) := by
        rw [line_ofG s r 83 _ (by decide) hsm]
        unfold rdVals
        rw [if_neg (by decide), if_pos rfl]
        show rdStop r a b c d f = _
        unfold rdStop
        rw [if_neg (by simp [hh]), if_neg (by simp at hs; omega), if_pos hok]
      obtain ⟨i1, g1⟩ := go_bods s 83 [a, b, c, d, f] r _ i (bodsL s q ++ t) hv
      obtain ⟨i2, g2⟩ := ih { r with stops := r.stops ++ [[a, b, c, d, f]] } i1 t hh (fun p hp' => hp p (by simp [hp'])) (by simp at hs ⊢; omega) hr
      refine ⟨i2, (g1.trans g2).trans ?_⟩
      congr 1; simp
    · obtain ⟨k, zs⟩ := p
      simp only at hk hz hsm; subst hk; subst hz
      have es : stopsOf (((82 : UInt8), [a, b, c]) :: q) = stopsOf q := by simp [stopsOf]
      have er : roadsOf (((82 : UInt8), [a, b, c]) :: q) = [a, b, c] :: roadsOf q := by simp [roadsOf]
      rw [es] at hs ⊢; rw [er] at hr ⊢
      have hv : rdLine r (bodyG s [82] [a, b, c]) = ({ r with roads := r.roads ++ [[a, b, c]] }, 0) := by
        rw [line_ofG s r 82 _ (by decide) hsm]
        unfold rdVals
        rw [if_neg (by decide), if_neg (by decide), if_pos rfl]
        show rdRoad r a b c = _
        unfold rdRoad
        rw [if_neg (by simp [hh]), if_neg (by simp at hr; omega), if_pos hok]
      obtain ⟨i1, g1⟩ := go_bods s 82 [a, b, c] r _ i (bodsL s q ++ t) hv
      obtain ⟨i2, g2⟩ := ih { r with roads := r.roads ++ [[a, b, c]] } i1 t hh (fun p hp' => hp p (by simp [hp'])) hs (by simp at hr ⊢; omega)
      refine ⟨i2, (g1.trans g2).trans ?_⟩
      congr 1; simp

/- the items of an instance -/
theorem stopsOf_append (a b : List (UInt8 × List Int)) : stopsOf (a ++ b) = stopsOf a ++ stopsOf b := by simp [stopsOf]
theorem roadsOf_append (a b : List (UInt8 × List Int)) : roadsOf (a ++ b) = roadsOf a ++ roadsOf b := by simp [roadsOf]
theorem its_of (s : Sty) (r : Rd) (k : Nat) (h : k ≤ r.stops.length) : stopsOf (itsK s r k) = r.stops.take k ∧ roadsOf (itsK s r k) = r.roads.take (used s r k) := by
  induction k with
  | zero => refine ⟨by simp [itsK, stopsOf], ?_⟩; unfold used; split <;> simp [itsK, roadsOf]
  | succ k ih =>
    obtain ⟨i1, i2⟩ := ih (by omega)
    have hk : k < r.stops.length := by omega
    unfold itsK
    rw [stopsOf_append, stopsOf_append, roadsOf_append, roadsOf_append, i1, i2, List.take_succ_eq_append_getElem hk]
    by_cases hb : s.b5 = true ∧ k < r.roads.length
    · rw [if_pos hb]
      refine ⟨by simp [stopsOf, hk], ?_⟩
      have u1 : used s r k = k := by unfold used; rw [if_pos hb.1]; omega
      have u2 : used s r (k + 1) = k + 1 := by unfold used; rw [if_pos hb.1]; omega
      rw [u1, u2, List.take_succ_eq_append_getElem hb.2]
      simp [roadsOf, hb.2]
    · rw [if_neg hb]
      refine ⟨by simp [stopsOf, hk], ?_⟩
      have u : r.roads.take (used s r (k + 1)) = r.roads.take (used s r k) := by
        unfold used
        by_cases hb5 : s.b5 = true
        · have : ¬ k < r.roads.length := fun h => hb ⟨hb5, h⟩
          rw [if_pos hb5, if_pos hb5, Nat.min_eq_right (by omega), Nat.min_eq_right (by omega)]
        · rw [if_neg hb5, if_neg hb5]
      rw [u]; simp [roadsOf]
theorem roadsOf_map (l : List (List Int)) : roadsOf (l.map fun z => ((82 : UInt8), z)) = l := by
  induction l with
  | nil => rfl
  | cons a t ih => rw [List.map_cons, show roadsOf (((82 : UInt8), a) :: t.map fun z => ((82 : UInt8), z)) = a :: roadsOf (t.map fun z => ((82 : UInt8), z)) by simp [roadsOf], ih]
theorem stopsOf_map (l : List (List Int)) : stopsOf (l.map fun z => ((82 : UInt8), z)) = [] := by
  induction l with
  | nil => rfl
  | cons a t ih => rw [List.map_cons, show stopsOf (((82 : UInt8), a) :: t.map fun z => ((82 : UInt8), z)) = stopsOf (t.map fun z => ((82 : UInt8), z)) by simp [stopsOf], ih]
theorem all_of (s : Sty) (r : Rd) : stopsOf (itsAll s r) = r.stops ∧ roadsOf (itsAll s r) = r.roads := by
  obtain ⟨h1, h2⟩ := its_of s r r.stops.length (Nat.le_refl _)
  unfold itsAll
  rw [stopsOf_append, roadsOf_append, h1, h2, stopsOf_map, roadsOf_map, List.take_append_drop]
  simp
theorem its_mem (s : Sty) (r : Rd) (k : Nat) (h : k ≤ r.stops.length) : ∀ p ∈ itsK s r k, (p.1 = 83 ∧ p.2 ∈ r.stops) ∨ (p.1 = 82 ∧ p.2 ∈ r.roads) := by
  induction k with
  | zero => intro p hp; simp [itsK] at hp
  | succ k ih =>
    intro p hp
    have hk : k < r.stops.length := by omega
    unfold itsK at hp
    simp only [List.mem_append, List.mem_singleton] at hp
    rcases hp with (hp | hp) | rfl
    · exact ih (by omega) p hp
    · split at hp
      · rename_i hb
        simp only [List.mem_singleton] at hp; subst hp
        right; refine ⟨rfl, ?_⟩; simp [hb.2]
      · simp at hp
    · left; refine ⟨rfl, ?_⟩; simp [hk]
theorem all_mem (s : Sty) (r : Rd) : ∀ p ∈ itsAll s r, (p.1 = 83 ∧ p.2 ∈ r.stops) ∨ (p.1 = 82 ∧ p.2 ∈ r.roads) := by
  intro p hp
  unfold itsAll at hp
  simp only [List.mem_append, List.mem_map] at hp
  rcases hp with hp | ⟨z, hz, rfl⟩
  · exact its_mem s r _ (Nat.le_refl _) p hp
  · right; exact ⟨rfl, List.mem_of_mem_drop hz⟩
theorem all_ok (s : Sty) {r : Rd} (h : RdOk r) : ∀ p ∈ itsAll s r, itOk r.nodes p := by
  intro p hp
  rcases all_mem s r p hp with ⟨hk, hm⟩ | ⟨hk, hm⟩
  · left
    obtain ⟨a, b, c, d, e, hz, hok⟩ := h.stops _ hm
    exact ⟨hk, a, b, c, d, e, hz, hok, (h.nice.stops _ hm).2⟩
  · right
    obtain ⟨a, b, c, hz, hok⟩ := h.roads _ hm
    exact ⟨hk, a, b, c, hz, hok, (h.nice.roads _ hm).2⟩
theorem items_length (s : Sty) (l : List (UInt8 × List Int)) {N : Int} (h : ∀ p ∈ l, itOk N p) : (itemsL s l).length ≤ 46 * (stopsOf l).length + 30 * (roadsOf l).length := by
  induction l with
  | nil => simp [itemsL]
  | cons p t ih =>
    have i := ih (fun p hp => h p (by simp [hp]))
    have e' : itemsL s (p :: t) = lineG s [p.1] p.2 ++ itemsL s t := by simp [itemsL, itemL]
    have hl := lineG_length s [p.1] p.2
    rw [e', List.length_append]
    simp only [List.length_cons, List.length_nil] at hl
    rcases h p (by simp) with ⟨hk, a, b, c, d, f, hz, _⟩ | ⟨hk, a, b, c, hz, _⟩
    · have es : (stopsOf (p :: t)).length = (stopsOf t).length + 1 := by simp [stopsOf, hk]
      have er : roadsOf (p :: t) = roadsOf t := by simp [roadsOf, hk]
      rw [es, er]; rw [hz] at hl ⊢; simp only [List.length_cons, List.length_nil] at hl; omega
    · have es : stopsOf (p :: t) = stopsOf t := by simp [stopsOf, hk]
      have er : (roadsOf (p :: t)).length = (roadsOf t).length + 1 := by simp [roadsOf, hk]
      rw [es, er]; rw [hz] at hl ⊢; simp only [List.length_cons, List.length_nil] at hl; omega
theorem textG_length (s : Sty) {r : Rd} (h : RdOk r) : (textG s r).length ≤ 2000 := by
  have h1 := items_length s (itsAll s r) (all_ok s h)
  rw [(all_of s r).1, (all_of s r).2] at h1
  have h3 := lineG_length s [68] [r.vans, r.load, r.close, r.nodes, r.home]
  have h4 := h.nstops; have h5 := h.nroads
  unfold textG headG
  simp only [List.length_append, List.length_cons, List.length_nil] at h3 ⊢; omega
theorem bodsL_no10 (s : Sty) (l : List (UInt8 × List Int)) {N : Int} (h : ∀ p ∈ l, itOk N p) : ∀ b ∈ bodsL s l, (10 : UInt8) ∉ b := by
  intro b hb
  unfold bodsL at hb
  simp only [List.mem_flatten, List.mem_map] at hb
  obtain ⟨q, ⟨p, hp, rfl⟩, hb⟩ := hb
  refine bods_no10 s p.1 p.2 ?_ b hb
  rcases h p hp with ⟨hk, _⟩ | ⟨hk, _⟩
  · rw [hk]; decide
  · rw [hk]; decide
theorem parse_textG (s : Sty) {r : Rd} (h : RdOk r) : parseS (textG s r) = (r, 0, 0) := by
  refine parse_ok (textG_length s h) ?_ h.isHead
  have e : textG s r = (((bods s 68 [r.vans, r.load, r.close, r.nodes, r.home]) ++ bodsL s (itsAll s r)).map (· ++ [10])).flatten := by
    unfold textG headG; rw [line_bods, items_bods, List.map_append, List.flatten_append]
  rw [e, split_lines]
  · have hv : rdLine Rd0 (bodyG s [68] [r.vans, r.load, r.close, r.nodes, r.home]) = ({ vans := r.vans, load := r.load, close := r.close, nodes := r.nodes, home := r.home, stops := [], roads := [], head := true }, 0) := by
      rw [line_ofG s Rd0 68 _ (by decide) h.nice.nums]
      unfold rdVals
      rw [if_pos rfl]
      show rdDepot Rd0 r.vans r.load r.close r.nodes r.home = _
      unfold rdDepot
      rw [if_neg (by simp [Rd0]), if_pos h.head]
    obtain ⟨i1, g1⟩ := go_bods s 68 _ Rd0 _ 0 (bodsL s (itsAll s r) ++ [[]]) hv
    obtain ⟨i2, g2⟩ := go_items s (itsAll s r) { vans := r.vans, load := r.load, close := r.close, nodes := r.nodes, home := r.home, stops := [], roads := [], head := true } i1 [[]] rfl (all_ok s h) (by rw [(all_of s r).1]; simpa using h.nstops) (by rw [(all_of s r).2]; simpa using h.nroads)
    rw [List.append_assoc]
    refine g1.trans (g2.trans ?_)
    rw [(all_of s r).1, (all_of s r).2]
    have hl : rdLine ({ vans := r.vans, load := r.load, close := r.close, nodes := r.nodes, home := r.home, stops := [] ++ r.stops, roads := [] ++ r.roads, head := true } : Rd) [] = ({ vans := r.vans, load := r.load, close := r.close, nodes := r.nodes, home := r.home, stops := [] ++ r.stops, roads := [] ++ r.roads, head := true }, 0) := rfl
    show (if _ then _ else _) = _
    rw [hl, if_pos rfl]
    show (_, 0, 0) = _
    have e : ({ vans := r.vans, load := r.load, close := r.close, nodes := r.nodes, home := r.home, stops := [] ++ r.stops, roads := [] ++ r.roads, head := true } : Rd) = r := by
      have := h.isHead
      cases r; simp at this ⊢; exact this
    rw [e]
  · intro b hb
    simp only [List.mem_append] at hb
    rcases hb with hb | hb
    · exact bods_no10 s 68 _ (by decide) b hb
    · exact bodsL_no10 s _ (all_ok s h) b hb
end Go.Proofs.YtebinaopncclgaaDoor
