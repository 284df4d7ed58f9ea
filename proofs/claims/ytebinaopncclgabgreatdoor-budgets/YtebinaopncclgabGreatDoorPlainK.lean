/- Plain mathematics of the seat: instances with other roads. No program in sight. -/
import Derived.Test.YtebinaopncclgabGreatDoorParse
import Derived.Test.YtebinaopncclgabGreatDoorPlainG
import Derived.Test.YtebinaopncclgabGreatDoorBetw
namespace Go.Proofs.YtebinaopncclgabGreatDoor
open Go.RowKit

theorem dg_nat (n : Nat) : (dg n).toNat = 48 + n % 10 := by
  unfold dg; rw [UInt8.toNat_ofNat']; omega
theorem digs_append (a b : List UInt8) : digs (a ++ b) = (digs a && digs b) := by simp [digs]
theorem digs_dg (n : Nat) : digs [dg n] = true := by
  have := digs_snoc [] (dg n)
  simp only [List.nil_append] at this
  rw [this, dg_nat]; simp [digs]; omega
theorem decF_digs (f n : Nat) : digs (decF f n) = true := by
  induction f generalizing n with
  | zero => exact digs_dg n
  | succ f ih =>
    show digs (if n < 10 then _ else _) = true
    split
    · exact digs_dg n
    · rw [digs_append, ih, digs_dg]; rfl
theorem val_dg (n : Nat) : val [dg n] = n % 10 := by
  have := val_snoc [] (dg n)
  simp only [List.nil_append] at this
  rw [this, dg_nat]; simp [val]
theorem decF_val (f n : Nat) (h : n < 10 ^ (f + 1)) : val (decF f n) = n := by
  induction f generalizing n with
  | zero => show val [dg n] = n; rw [val_dg]; omega
  | succ f ih =>
    show val (if n < 10 then _ else _) = n
    split
    · rw [val_dg]; omega
    · rw [val_snoc, ih (n / 10) (by rw [Nat.pow_succ] at h; omega), dg_nat]; omega
theorem decF_len (f n k : Nat) (h : n < 10 ^ k) (hk : 1 ≤ k) : 1 ≤ (decF f n).length ∧ (decF f n).length ≤ k := by
  induction f generalizing n k with
  | zero => exact ⟨by simp [decF], by simpa [decF] using hk⟩
  | succ f ih =>
    show 1 ≤ (if n < 10 then _ else _ : List UInt8).length ∧ (if n < 10 then _ else _ : List UInt8).length ≤ k
    split
    · exact ⟨by simp, by simpa using hk⟩
    · obtain ⟨k', rfl⟩ : ∃ k', k = k' + 1 := ⟨k - 1, by omega⟩
      have hk' : 1 ≤ k' := by
        cases k' with
        | zero => simp at h; omega
        | succ k' => omega
      have := ih (n / 10) k' (by rw [Nat.pow_succ] at h; omega) hk'
      simp only [List.length_append, List.length_cons, List.length_nil]; omega
theorem dec_ok {n : Nat} (h : n ≤ 99999) : numOk (decS n) = true ∧ numV (decS n) = n := by
  have hl := decF_len 5 n 5 (by omega) (by omega)
  have h1 : numOk (decS n) = true := numOk_of hl.1 hl.2 (decF_digs 5 n)
  exact ⟨h1, by rw [numV_yes h1]; unfold decS; rw [decF_val 5 n (by omega)]⟩
theorem dec_ne (n : Nat) : decS n ≠ [] := by
  intro h
  have := (decF_len 5 n (n + 1) (Nat.lt_of_lt_of_le (Nat.lt_pow_self (by decide)) (Nat.pow_le_pow_right (by decide) (by omega))) (by omega)).1
  rw [show decF 5 n = [] from h] at this
  simp at this
theorem digs_no {l : List UInt8} (h : digs l = true) {c : UInt8} (hc : c.toNat < 48) : c ∉ l := by
  intro hm
  unfold digs at h
  rw [List.all_eq_true] at h
  have := h c hm
  simp only [Bool.and_eq_true, decide_eq_true_eq] at this
  have := UInt8.le_iff_toNat_le.1 this.1
  have e : (48 : UInt8).toNat = 48 := rfl
  omega

/- fields -/
theorem spf_plain (l : List UInt8) (hl : 32 ∉ l) : ∀ P C, l.foldl stepF (P, C) = (P, C ++ l) := by
  induction l with
  | nil => intro P C; simp
  | cons x t ih =>
    intro P C
    have hx : x ≠ 32 := fun e => hl (by simp [e])
    simp only [List.foldl_cons]
    rw [show stepF (P, C) x = (P, C ++ [x]) from by unfold stepF; rw [if_neg hx], ih (fun h => hl (by simp [h]))]
    simp
theorem spf_wrds (zs : List Int) : ∀ P C, C ≠ [] → ∃ P' C', (wrds zs).foldl stepF (P, C) = (P', C') ∧ C' ≠ [] ∧ P' ++ [C'] = P ++ C :: zs.map fun z => decS z.toNat := by
  induction zs with
  | nil => intro P C hC; exact ⟨P, C, by simp [wrds], hC, by simp⟩
  | cons z t ih =>
    intro P C hC
    have e : wrds (z :: t) = 32 :: (decS z.toNat ++ wrds t) := by simp [wrds, wrd]
    have h1 : stepF (P, C) 32 = (P ++ [C], []) := by unfold stepF; rw [if_pos rfl, if_neg hC]
    have h2 : (decS z.toNat).foldl stepF (P ++ [C], []) = (P ++ [C], decS z.toNat) := by
      rw [spf_plain (decS z.toNat) (digs_no (decF_digs 5 z.toNat) (by decide)), List.nil_append]
    obtain ⟨P', C', h3, h4, h5⟩ := ih (P ++ [C]) (decS z.toNat) (dec_ne _)
    refine ⟨P', C', ?_, h4, ?_⟩
    · rw [e, List.foldl_cons, List.foldl_append, h1, h2, h3]
    · rw [h5]; simp
theorem flds_line (k : List UInt8) (zs : List Int) (hk : k ≠ []) (h32 : 32 ∉ k) : flds (k ++ wrds zs) = k :: zs.map fun z => decS z.toNat := by
  obtain ⟨P', C', h3, h4, h5⟩ := spf_wrds zs [] k hk
  have e : spf (k ++ wrds zs) = (P', C') := by
    unfold spf; rw [List.foldl_append, spf_plain k h32, List.nil_append, h3]
  unfold flds
  rw [e, if_neg h4, h5]; rfl

/- lines -/
theorem spl_plain (l : List UInt8) (hl : 10 ∉ l) : ∀ P C, l.foldl (stepL 10) (P, C) = (P, C ++ l) := by
  induction l with
  | nil => intro P C; simp
  | cons x t ih =>
    intro P C
    have hx : x ≠ 10 := fun e => hl (by simp [e])
    simp only [List.foldl_cons]
    rw [show stepL 10 (P, C) x = (P, C ++ [x]) from by unfold stepL; rw [if_neg hx], ih (fun h => hl (by simp [h]))]
    simp
theorem spl_lines (bs : List (List UInt8)) (hb : ∀ b ∈ bs, 10 ∉ b) : ∀ P, ((bs.map (· ++ [10])).flatten).foldl (stepL 10) (P, []) = (P ++ bs, []) := by
  induction bs with
  | nil => intro P; simp
  | cons b t ih =>
    intro P
    simp only [List.map_cons, List.flatten_cons]
    rw [List.foldl_append, List.foldl_append, spl_plain b (hb b (by simp)), List.nil_append]
    rw [show ([10] : List UInt8).foldl (stepL 10) (P, b) = (P ++ [b], []) from by simp [stepL], ih (fun b hb' => hb b (by simp [hb']))]
    simp
theorem split_lines (bs : List (List UInt8)) (hb : ∀ b ∈ bs, 10 ∉ b) : splitB 10 (bs.map (· ++ [10])).flatten = bs ++ [[]] := by
  unfold splitB spl; rw [spl_lines bs hb]; simp
theorem wrds_no10 (zs : List Int) : (10 : UInt8) ∉ wrds zs := by
  intro h
  unfold wrds at h
  simp only [List.mem_flatten, List.mem_map] at h
  obtain ⟨l, ⟨z, _, rfl⟩, hm⟩ := h
  unfold wrd at hm
  simp only [List.mem_cons] at hm
  rcases hm with hm | hm
  · exact absurd hm (by decide)
  · exact digs_no (decF_digs 5 z.toNat) (by decide) hm

/- the bodies of an instance's lines -/
def bodies (r : Rd) : List (List UInt8) := ([68] ++ wrds [r.vans, r.load, r.close, r.nodes, r.home]) :: (r.stops.map (fun s => [83] ++ wrds s) ++ r.roads.map (fun s => [82] ++ wrds s))
theorem text_bodies (r : Rd) : textL r = ((bodies r).map (· ++ [10])).flatten := by
  unfold textL headL stopsL roadsL bodies lineL
  simp [List.map_map, Function.comp_def]
theorem bodies_no10 (r : Rd) : ∀ b ∈ bodies r, 10 ∉ b := by
  intro b hb h
  have key : ∀ (k : UInt8) zs, k ≠ 10 → (10 : UInt8) ∉ [k] ++ wrds zs := by
    intro k zs hk h
    simp only [List.cons_append, List.nil_append, List.mem_cons] at h
    rcases h with h | h
    · exact hk h.symm
    · exact wrds_no10 zs h
  simp only [bodies, List.mem_cons, List.mem_append, List.mem_map] at hb
  rcases hb with rfl | ⟨s, _, rfl⟩ | ⟨s, _, rfl⟩
  · exact key 68 _ (by decide) h
  · exact key 83 _ (by decide) h
  · exact key 82 _ (by decide) h
theorem nums_of {zs : List Int} (h : ∀ z ∈ zs, small z) : (zs.map fun z => decS z.toNat).all numOk = true ∧ (zs.map fun z => decS z.toNat).map numV = zs := by
  constructor
  · rw [List.all_eq_true]; intro l hl
    obtain ⟨z, hz, rfl⟩ := List.mem_map.1 hl
    have := h z hz; unfold small at this
    exact (dec_ok (by omega)).1
  · rw [List.map_map]
    refine (List.map_congr_left (g := id) fun z hz => ?_).trans (List.map_id zs)
    have := h z hz; unfold small at this
    simp only [Function.comp, id]
    rw [(dec_ok (by omega)).2]; omega
theorem line_of (r : Rd) (k : UInt8) (zs : List Int) (hk : k ≠ 32) (h : ∀ z ∈ zs, small z) : rdLine r ([k] ++ wrds zs) = rdVals r [k] zs := by
  have := nums_of h
  unfold rdLine
  rw [flds_line [k] zs (by simp) (by simpa using fun e => hk e.symm)]
  simp only []
  rw [if_pos this.1, this.2]
theorem go_stops (ss : List (List Int)) : ∀ (r : Rd) (i : Nat) (t : List (List UInt8)), r.head = true → r.stops.length + ss.length ≤ 7 → (∀ s ∈ ss, ∃ a b c d e, s = [a, b, c, d, e] ∧ stopOk a b c d e r.nodes = true) → (∀ s ∈ ss, ∀ z ∈ s, small z) →
    rdGo r i (ss.map (fun s => [83] ++ wrds s) ++ t) = rdGo { r with stops := r.stops ++ ss } (i + ss.length) t := by
  induction ss with
  | nil => intro r i t _ _ _ _; simp
  | cons s q ih =>
    intro r i t hh hl hs hz
    obtain ⟨a, b, c, d, e, rfl, hok⟩ := hs s (by simp)
    have hv : rdLine r ([83] ++ wrds [a, b, c, d, e]) = ({ r with stops := r.stops ++ [[a, b, c, d, e]] }, 0) := by
      rw [line_of r 83 _ (by decide) (hz _ (by simp))]
      unfold rdVals
      rw [if_neg (by decide), if_pos rfl]
      show rdStop r a b c d e = _
      unfold rdStop
      rw [if_neg (by simp [hh]), if_neg (by simp at hl; omega), if_pos hok]
    rw [List.map_cons, List.cons_append]
    show (if _ then _ else _) = _
    rw [hv, if_pos rfl]
    rw [ih { r with stops := r.stops ++ [[a, b, c, d, e]] } (i + 1) t hh (by simp at hl ⊢; omega) (fun s hs' => hs s (by simp [hs'])) (fun s hs' => hz s (by simp [hs']))]
    congr 1
    · simp
    · simp; omega
theorem go_roads (ss : List (List Int)) : ∀ (r : Rd) (i : Nat) (t : List (List UInt8)), r.head = true → r.roads.length + ss.length ≤ 40 → (∀ s ∈ ss, ∃ a b c, s = [a, b, c] ∧ roadOk a b c r.nodes = true) → (∀ s ∈ ss, ∀ z ∈ s, small z) →
    rdGo r i (ss.map (fun s => [82] ++ wrds s) ++ t) = rdGo { r with roads := r.roads ++ ss } (i + ss.length) t := by
  induction ss with
  | nil => intro r i t _ _ _ _; simp
  | cons s q ih =>
    intro r i t hh hl hs hz
    obtain ⟨a, b, c, rfl, hok⟩ := hs s (by simp)
    have hv : rdLine r ([82] ++ wrds [a, b, c]) = ({ r with roads := r.roads ++ [[a, b, c]] }, 0) := by
      rw [line_of r 82 _ (by decide) (hz _ (by simp))]
      unfold rdVals
      rw [if_neg (by decide), if_neg (by decide), if_pos rfl]
      show rdRoad r a b c = _
      unfold rdRoad
      rw [if_neg (by simp [hh]), if_neg (by simp at hl; omega), if_pos hok]
    rw [List.map_cons, List.cons_append]
    show (if _ then _ else _) = _
    rw [hv, if_pos rfl]
    rw [ih { r with roads := r.roads ++ [[a, b, c]] } (i + 1) t hh (by simp at hl ⊢; omega) (fun s hs' => hs s (by simp [hs'])) (fun s hs' => hz s (by simp [hs']))]
    congr 1
    · simp
    · simp; omega
theorem stopsL_length (ss : List (List Int)) (h : ∀ s ∈ ss, s.length = 5) : (stopsL ss).length ≤ 37 * ss.length := by
  unfold stopsL
  induction ss with
  | nil => simp
  | cons s t ih =>
    have h1 := lineL_length [83] s; have h2 := h s (by simp); have h3 := ih (fun s hs => h s (by simp [hs]))
    simp only [List.map_cons, List.flatten_cons, List.length_append, List.length_cons, List.length_nil] at h1 ⊢; omega
theorem roadsL_length (ss : List (List Int)) (h : ∀ s ∈ ss, s.length = 3) : (roadsL ss).length ≤ 23 * ss.length := by
  unfold roadsL
  induction ss with
  | nil => simp
  | cons s t ih =>
    have h1 := lineL_length [82] s; have h2 := h s (by simp); have h3 := ih (fun s hs => h s (by simp [hs]))
    simp only [List.map_cons, List.flatten_cons, List.length_append, List.length_cons, List.length_nil] at h1 ⊢; omega
theorem textL_length {r : Rd} (h : RdOk r) : (textL r).length ≤ 2000 := by
  have h1 := stopsL_length r.stops (fun s hs => (h.nice.stops s hs).1)
  have h2 := roadsL_length r.roads (fun s hs => (h.nice.roads s hs).1)
  have h3 := lineL_length [68] [r.vans, r.load, r.close, r.nodes, r.home]
  have h4 := h.nstops; have h5 := h.nroads
  unfold textL headL
  simp only [List.length_append, List.length_cons, List.length_nil] at h3 ⊢; omega
theorem parse_text {r : Rd} (h : RdOk r) : parseS (textL r) = (r, 0, 0) := by
  refine parse_ok (textL_length h) ?_ h.isHead
  rw [text_bodies, split_lines _ (bodies_no10 r)]
  unfold bodies
  have hv : rdLine Rd0 ([68] ++ wrds [r.vans, r.load, r.close, r.nodes, r.home]) = ({ vans := r.vans, load := r.load, close := r.close, nodes := r.nodes, home := r.home, stops := [], roads := [], head := true }, 0) := by
    rw [line_of Rd0 68 _ (by decide) h.nice.nums]
    unfold rdVals
    rw [if_pos rfl]
    show rdDepot Rd0 r.vans r.load r.close r.nodes r.home = _
    unfold rdDepot
    rw [if_neg (by simp [Rd0]), if_pos h.head]
  rw [List.cons_append]
  show (if _ then _ else _) = _
  rw [hv, if_pos rfl]
  have g1 := go_stops r.stops { vans := r.vans, load := r.load, close := r.close, nodes := r.nodes, home := r.home, stops := [], roads := [], head := true } (0 + 1) (r.roads.map (fun s => [82] ++ wrds s) ++ [[]]) rfl (by simpa using h.nstops) h.stops (fun s hs => (h.nice.stops s hs).2)
  have g2 := go_roads r.roads { vans := r.vans, load := r.load, close := r.close, nodes := r.nodes, home := r.home, stops := [] ++ r.stops, roads := [], head := true } (0 + 1 + r.stops.length) [[]] rfl (by simpa using h.nroads) h.roads (fun s hs => (h.nice.roads s hs).2)
  rw [List.append_assoc]
  refine g1.trans (g2.trans ?_)
  have hl : rdLine ({ vans := r.vans, load := r.load, close := r.close, nodes := r.nodes, home := r.home, stops := [] ++ r.stops, roads := [] ++ r.roads, head := true } : Rd) [] = ({ vans := r.vans, load := r.load, close := r.close, nodes := r.nodes, home := r.home, stops := [] ++ r.stops, roads := [] ++ r.roads, head := true }, 0) := rfl
  show (if _ then _ else _) = _
  rw [hl, if_pos rfl]
  show (_, 0, 0) = _
  have e : ({ vans := r.vans, load := r.load, close := r.close, nodes := r.nodes, home := r.home, stops := [] ++ r.stops, roads := [] ++ r.roads, head := true } : Rd) = r := by
    have := h.isHead
    cases r; simp at this ⊢; exact this
  rw [e]
end Go.Proofs.YtebinaopncclgabGreatDoor
namespace Go.Proofs.YtebinaopncclgabGreatDoor
open Go.RowKit

/- no way, as a great number -/
def ex (x : Int) : Int := if x = -1 then 1000000000 else x
theorem ex_range {x M : Int} (h : -1 ≤ x ∧ x ≤ M) (hM : M ≤ 100000000) : 0 ≤ ex x ∧ ex x ≤ 1000000000 ∧ (x ≠ -1 → ex x = x) ∧ (x = -1 → ex x = 1000000000) := by
  unfold ex; split
  · exact ⟨by omega, by omega, fun h => absurd ‹_› h, fun _ => rfl⟩
  · exact ⟨by omega, by omega, fun _ => rfl, fun h => absurd h ‹_›⟩
/- the triangle's law -/
def Tri (N : Nat) (E : Nat → Nat → Int) : Prop := ∀ a b c, a < N → b < N → c < N → E a b ≤ E a c + E c b
theorem ex_gF {N v x y : Nat} {F : Nat → Nat → Int} (h : Lens N 40960000 F) (hv : v < N) (hx : x < N) (hy : y < N) :
    ex (gF v F x y) = min (ex (F x y)) (ex (F x v) + ex (F v y)) := by
  have a := h.2 x y hx hy; have b := h.2 x v hx hv; have c := h.2 v y hv hy
  have ea := ex_range a (by omega); have eb := ex_range b (by omega); have ec := ex_range c (by omega)
  unfold gF
  by_cases h1 : F x v ≠ -1 ∧ F v y ≠ -1
  · rw [if_pos h1]
    have e1 := eb.2.2.1 h1.1; have e2 := ec.2.2.1 h1.2
    unfold shortS
    by_cases h2 : F x y = -1
    · rw [if_pos (Or.inl h2), ea.2.2.2 h2, e1, e2]; unfold ex; rw [if_neg (by omega)]; omega
    · have e3 := ea.2.2.1 h2
      by_cases h3 : F x v + F v y < F x y
      · rw [if_pos (Or.inr h3), e1, e2, e3]; unfold ex; rw [if_neg (by omega)]; omega
      · rw [if_neg (by omega), e1, e2, e3]; omega
  · rw [if_neg h1]
    by_cases h2 : F x v = -1
    · have := eb.2.2.2 h2; omega
    · have h3 : F v y = -1 := by
        by_cases h4 : F v y = -1
        · exact h4
        · exact absurd ⟨h2, h4⟩ h1
      have := ec.2.2.2 h3; omega

/- through the nodes below v -/
def TriTo (N v : Nat) (E : Nat → Nat → Int) : Prop := ∀ a b c, a < N → b < N → c < v → E a b ≤ E a c + E c b
theorem fw_tri {N : Nat} {F : Nat → Nat → Int} (h : Lens N 10000 F) (hN : N ≤ 12) : ∀ v, v ≤ N → TriTo N v (fun x y => ex (fwF F v x y)) := by
  intro v
  induction v with
  | zero => intro _ a b c _ _ hc; omega
  | succ v ih =>
    intro hv a b c ha hb hc
    have hL := fw_lens12 h hN (show v ≤ N by omega)
    have I := ih (by omega)
    have hvN : v < N := by omega
    have g : ∀ x y, x < N → y < N → ex (fwF F (v + 1) x y) = min (ex (fwF F v x y)) (ex (fwF F v x v) + ex (fwF F v v y)) := fun x y hx hy => ex_gF hL hvN hx hy
    have pos : ∀ x y, x < N → y < N → 0 ≤ ex (fwF F v x y) := fun x y hx hy => (ex_range (hL.2 x y hx hy) (by omega)).1
    have hcN : c < N := by omega
    dsimp only
    rw [g a b ha hb, g a c ha hcN, g c b hcN hb]
    have hvv : ex (fwF F v v v) = 0 := by rw [hL.1 v hvN]; rfl
    by_cases hcv : c = v
    · subst hcv; rw [hvv]
      have := pos a c ha hcN; have := pos c b hcN hb
      omega
    · have hc' : c < v := by omega
      have i1 := I a b c ha hb hc'
      have i2 := I v b c hvN hb hc'
      have i3 := I a v c ha hvN hc'
      dsimp only at i1 i2 i3
      have p1 := pos v c hvN hcN; have p2 := pos c v hcN hvN; have p3 := pos a c ha hcN; have p4 := pos c b hcN hb; have p5 := pos a v ha hvN; have p6 := pos v b hvN hb
      omega
theorem fw_le {N : Nat} {F : Nat → Nat → Int} (h : Lens N 10000 F) (hN : N ≤ 12) : ∀ v, v ≤ N → ∀ x y, x < N → y < N → ex (fwF F v x y) ≤ ex (F x y) := by
  intro v
  induction v with
  | zero => intro _ x y _ _; exact Int.le_refl _
  | succ v ih =>
    intro hv x y hx hy
    have hL := fw_lens12 h hN (show v ≤ N by omega)
    have := ih (by omega) x y hx hy
    have g : ex (fwF F (v + 1) x y) = min (ex (fwF F v x y)) (ex (fwF F v x v) + ex (fwF F v v y)) := ex_gF hL (by omega) hx hy
    omega
/- whatever keeps the triangle's law and is not above F is not above the least ways -/
theorem fw_greatest {N : Nat} {F : Nat → Nat → Int} {M : Nat → Nat → Int} (h : Lens N 10000 F) (hN : N ≤ 12) (hT : Tri N M) (hM : ∀ x y, x < N → y < N → M x y ≤ ex (F x y)) :
    ∀ v, v ≤ N → ∀ x y, x < N → y < N → M x y ≤ ex (fwF F v x y) := by
  intro v
  induction v with
  | zero => intro _ x y hx hy; exact hM x y hx hy
  | succ v ih =>
    intro hv x y hx hy
    have hL := fw_lens12 h hN (show v ≤ N by omega)
    have hvN : v < N := by omega
    have g : ex (fwF F (v + 1) x y) = min (ex (fwF F v x y)) (ex (fwF F v x v) + ex (fwF F v v y)) := ex_gF hL hvN hx hy
    have i1 := ih (by omega) x y hx hy
    have i2 := ih (by omega) x v hx hvN
    have i3 := ih (by omega) v y hvN hy
    have t := hT x y v hx hy hvN
    omega
end Go.Proofs.YtebinaopncclgabGreatDoor
namespace Go.Proofs.YtebinaopncclgabGreatDoor
open Go.RowKit Go.IntWalk

theorem retVI {a b : Value} {c d : Int} (h : a = b) (h' : c = d) : Ending.returned (.tuple #[a, .int .i64 c]) = .returned (.tuple #[b, .int .i64 d]) := by rw [h, h']
set_option maxRecDepth 100000 in
set_option maxHeartbeats 2000000 in
theorem ways_ok (s : ByteArray) (r : Rd) (w : World) (hs : s.size ≤ maxLen) (hp : parseS s.data.toList = (r, 0, 0)) (hok : RdOk r) :
    Calls Tryz.prog 22 #[.string s] w fun e w' => ∃ v, e = .returned (.tuple #[v, .int .i64 0]) ∧ Grid w' w.heap.size v (r.stops.length + 1) (fun i j => wayF r (siteN r i) (siteN r j)) ∧ Below w.heap.size w w' := by
  have hcP := fun W => parse_any s W hs
  rw [hp] at hcP
  have HCP := hide hcP
  have HOK := hide hok
  have hns := hok.nstops
  have hnr := hok.nroads
  clear hcP hok hp hs
  go_enter Tryz.func22, Tryz.ntmps22
  go_wp2_with fail
  refine (HCP.out _).mono ?_
  rintro e1 w1 ⟨vs, vr, rfl, hos, hor, hb1⟩
  have HOS := hide hos
  have HOR := hide hor
  have HB1 := hide hb1
  obtain ⟨aos, caps, rfl, _, _⟩ := own_val hos
  obtain ⟨aor, capr, rfl, _, _⟩ := own_val hor
  unfold inst
  clear hos hor hb1
  go_wp2_with fail
  refine (between_any w.heap.size w.heap.size r (.slice aos r.stops.length caps) (.slice aor r.roads.length capr) _ HOK.out (HOS.out.alloc _) (HOR.out.alloc _)).mono ?_
  rintro e2 w2 ⟨v, rfl, hg, hb2⟩
  have HG := hide hg
  have HB2 := hide hb2
  obtain ⟨g, rfl, _⟩ := hg
  clear hb2
  go_wp2
  go_ret2
  exact ⟨_, retVI rfl rfl, HG.out.base (by have := HB1.out.size; simp; omega), (HB1.out.alloc HB1.out.size _).trans (HB2.out.mono (by have := HB1.out.size; simp; omega))⟩

/- a square of the right size -/
set_option maxHeartbeats 1000000 in
theorem square_any (n B : Nat) (v : Value) (D : Nat → Nat → Int) (w : World) (hn : n ≤ 100) (h : Grid w B v n D) :
    Calls Tryz.prog 23 #[v, .int .i64 n] w fun e w' => e = .returned (.bool true) ∧ w' = w := by
  obtain ⟨g, rfl, hg, hi⟩ := h
  have HI := hide hi
  have e0 : ((n : Int) != (n : Int)) = false := by simp
  clear hi
  go_enter Tryz.func23, Tryz.ntmps23
  go_wp2
  go_loop [5] (fun i => ∃ k : Nat, k ≤ n ∧ i = .int .i64 k) (fun i => n - (intOf i).toNat)
  case atStart => exact ⟨0, by omega, rfl⟩
  case round =>
    obtain ⟨k, hk, rfl⟩ := hrel
    by_cases hlt : k < n
    · obtain ⟨gi, h1, _, _⟩ := HI.out k hlt
      go_wp2
      go_round
      case rel => exact ⟨k + 1, by omega, by go_num⟩
      case measure => simp [intOf]; omega
    · go_wp2
      go_ret
      exact ⟨rfl, rfl⟩

end Go.Proofs.YtebinaopncclgabGreatDoor
namespace Go.Proofs.YtebinaopncclgabGreatDoor
open Go.RowKit

theorem ok_nodes {r : Rd} (h : RdOk r) : r.nodes = (r.nodes.toNat : Int) ∧ r.nodes.toNat ≤ 12 := by
  have hh := headOk_iff.1 h.head; omega
theorem ok_lens {r : Rd} (h : RdOk r) : Lens r.nodes.toNat 10000 (roadsF r.roads) := roads_lens r.roads (by rw [← (ok_nodes h).1]; exact h.roads) _ (diag_lens _)
theorem way_range {r : Rd} (h : RdOk r) {x y : Nat} (hx : x < r.nodes.toNat) (hy : y < r.nodes.toNat) : -1 ≤ wayF r x y ∧ wayF r x y ≤ 40960000 := (fw_lens12 (ok_lens h) (ok_nodes h).2 (Nat.le_refl _)).2 x y hx hy
end Go.Proofs.YtebinaopncclgabGreatDoor
