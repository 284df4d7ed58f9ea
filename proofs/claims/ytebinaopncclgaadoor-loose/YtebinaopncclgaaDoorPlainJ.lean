/- Plain mathematics of the seat: the text of an instance is parsed as that instance. No program in sight. -/
import Derived.Test.YtebinaopncclgaaDoorParse
import Derived.Test.YtebinaopncclgaaDoorPlainG
namespace Go.Proofs.YtebinaopncclgaaDoor
open Go.RowKit

theorem dg_nat (n : Nat) : (dg n).toNat = 48 + n % 10 := by
  unfold dg; rw [UInt8.toNat_ofNat']; omega
theorem digs_append (a b : List UInt8) : digs (a ++ b) = (digs a && digs b) := by simp [digs]
theorem digs_dg (n : Nat) : digs [dg n] = true := by
  have := digs_snoc [] (dg n)
  simp only [List.nil_append] at this
  rw [this, dg_nat]; simp [digs]; omega
theorem decF_digs (f n : Nat) : digs (decF f n) = true := by
  induction f generalizing n with
  | zero => exact digs_dg n
  | succ f ih =>
    show digs (if n < 10 then _ else _) = true
    split
    · exact digs_dg n
    · rw [digs_append, ih, digs_dg]; rfl
theorem val_dg (n : Nat) : val [dg n] = n % 10 := by
  have := val_snoc [] (dg n)
  simp only [List.nil_append] at this
  rw [this, dg_nat]; simp [val]
theorem decF_val (f n : Nat) (h : n < 10 ^ (f + 1)) : val (decF f n) = n := by
  induction f generalizing n with
  | zero => show val [dg n] = n; rw [val_dg]; omega
  | succ f ih =>
    show val (if n < 10 then _ else _) = n
    split
    · rw [val_dg]; omega
    · rw [val_snoc, ih (n / 10) (by rw [Nat.pow_succ] at h; omega), dg_nat]; omega
theorem decF_len (f n k : Nat) (h : n < 10 ^ k) (hk : 1 ≤ k) : 1 ≤ (decF f n).length ∧ (decF f n).length ≤ k := by
  induction f generalizing n k with
  | zero => exact ⟨by simp [decF], by simpa [decF] using hk⟩
  | succ f ih =>
    show 1 ≤ (if n < 10 then _ else _ : List UInt8).length ∧ (if n < 10 then _ else _ : List UInt8).length ≤ k
    split
    · exact ⟨by simp, by simpa using hk⟩
    · obtain ⟨k', rfl⟩ : ∃ k', k = k' + 1 := ⟨k - 1, by omega⟩
      have hk' : 1 ≤ k' := by
        cases k' with
        | zero => simp at h; omega
        | succ k' => omega
      have := ih (n / 10) k' (by rw [Nat.pow_succ] at h; omega) hk'
      simp only [List.length_append, List.length_cons, List.length_nil]; omega
theorem dec_ok {n : Nat} (h : n ≤ 99999) : numOk (decS n) = true ∧ numV (decS n) = n := by
  have hl := decF_len 5 n 5 (by omega) (by omega)
  have h1 : numOk (decS n) = true := numOk_of hl.1 hl.2 (decF_digs 5 n)
  exact ⟨h1, by rw [numV_yes h1]; unfold decS; rw [decF_val 5 n (by omega)]⟩
theorem dec_ne (n : Nat) : decS n ≠ [] := by
  intro h
  have := (decF_len 5 n (n + 1) (Nat.lt_of_lt_of_le (Nat.lt_pow_self (by decide)) (Nat.pow_le_pow_right (by decide) (by omega))) (by omega)).1
  rw [show decF 5 n = [] from h] at this
  simp at this
theorem digs_no {l : List UInt8} (h : digs l = true) {c : UInt8} (hc : c.toNat < 48) : c ∉ l := by
  intro hm
  unfold digs at h
  rw [List.all_eq_true] at h
  have := h c hm
  simp only [Bool.and_eq_true, decide_eq_true_eq] at this
  have := UInt8.le_iff_toNat_le.1 this.1
  have e : (48 : UInt8).toNat = 48 := rfl
  omega

/- fields -/
theorem spf_plain (l : List UInt8) (hl : 32 ∉ l) : ∀ P C, l.foldl stepF (P, C) = (P, C ++ l) := by
  induction l with
  | nil => intro P C; simp
  | cons x t ih =>
    intro P C
    have hx : x ≠ 32 := fun e => hl (by simp [e])
    simp only [List.foldl_cons]
    rw [show stepF (P, C) x = (P, C ++ [x]) from by unfold stepF; rw [if_neg hx], ih (fun h => hl (by simp [h]))]
    simp
theorem spf_wrds (zs : List Int) : ∀ P C, C ≠ [] → ∃ P' C', (wrds zs).foldl stepF (P, C) = (P', C') ∧ C' ≠ [] ∧ P' ++ [C'] = P ++ C :: zs.map fun z => decS z.toNat := by
  induction zs with
  | nil => intro P C hC; exact ⟨P, C, by simp [wrds], hC, by simp⟩
  | cons z t ih =>
    intro P C hC
    have e : wrds (z :: t) = 32 :: (decS z.toNat ++ wrds t) := by simp [wrds, wrd]
    have h1 : stepF (P, C) 32 = (P ++ [C], []) := by unfold stepF; rw [if_pos rfl, if_neg hC]
    have h2 : (decS z.toNat).foldl stepF (P ++ [C], []) = (P ++ [C], decS z.toNat) := by
      rw [spf_plain (decS z.toNat) (digs_no (decF_digs 5 z.toNat) (by decide)), List.nil_append]
    obtain ⟨P', C', h3, h4, h5⟩ := ih (P ++ [C]) (decS z.toNat) (dec_ne _)
    refine ⟨P', C', ?_, h4, ?_⟩
    · rw [e, List.foldl_cons, List.foldl_append, h1, h2, h3]
    · rw [h5]; simp
theorem flds_line (k : List UInt8) (zs : List Int) (hk : k ≠ []) (h32 : 32 ∉ k) : flds (k ++ wrds zs) = k :: zs.map fun z => decS z.toNat := by
  obtain ⟨P', C', h3, h4, h5⟩ := spf_wrds zs [] k hk
  have e : spf (k ++ wrds zs) = (P', C') := by
    unfold spf; rw [List.foldl_append, spf_plain k h32, List.nil_append, h3]
  unfold flds
  rw [e, if_neg h4, h5]; rfl

/- lines -/
theorem spl_plain (l : List UInt8) (hl : 10 ∉ l) : ∀ P C, l.foldl (stepL 10) (P, C) = (P, C ++ l) := by
  induction l with
  | nil => intro P C; simp
  | cons x t ih =>
    intro P C
    have hx : x ≠ 10 := fun e => hl (by simp [e])
    simp only [List.foldl_cons]
    rw [show stepL 10 (P, C) x = (P, C ++ [x]) from by unfold stepL; rw [if_neg hx], ih (fun h => hl (by simp [h]))]
    simp
theorem spl_lines (bs : List (List UInt8)) (hb : ∀ b ∈ bs, 10 ∉ b) : ∀ P, ((bs.map (· ++ [10])).flatten).foldl (stepL 10) (P, []) = (P ++ bs, []) := by
  induction bs with
  | nil => intro P; simp
  | cons b t ih =>
    intro P
    simp only [List.map_cons, List.flatten_cons]
    rw [List.foldl_append, List.foldl_append, spl_plain b (hb b (by simp)), List.nil_append]
    rw [show ([10] : List UInt8).foldl (stepL 10) (P, b) = (P ++ [b], []) from by simp [stepL], ih (fun b hb' => hb b (by simp [hb']))]
    simp
theorem split_lines (bs : List (List UInt8)) (hb : ∀ b ∈ bs, 10 ∉ b) : splitB 10 (bs.map (· ++ [10])).flatten = bs ++ [[]] := by
  unfold splitB spl; rw [spl_lines bs hb]; simp
theorem wrds_no10 (zs : List Int) : (10 : UInt8) ∉ wrds zs := by
  intro h
  unfold wrds at h
  simp only [List.mem_flatten, List.mem_map] at h
  obtain ⟨l, ⟨z, _, rfl⟩, hm⟩ := h
  unfold wrd at hm
  simp only [List.mem_cons] at hm
  rcases hm with hm | hm
  · exact absurd hm (by decide)
  · exact digs_no (decF_digs 5 z.toNat) (by decide) hm

/- the bodies of an instance's lines -/
def bodies (r : Rd) : List (List UInt8) := ([68] ++ wrds [r.vans, r.load, r.close, r.nodes, r.home]) :: (r.stops.map (fun s => [83] ++ wrds s) ++ r.roads.map (fun s => [82] ++ wrds s))
theorem text_bodies (r : Rd) : textL r = ((bodies r).map (· ++ [10])).flatten := by
  unfold textL headL stopsL roadsL bodies lineL
  simp [List.map_map, Function.comp_def]
theorem bodies_no10 (r : Rd) : ∀ b ∈ bodies r, 10 ∉ b := by
  intro b hb h
  have key : ∀ (k : UInt8) zs, k ≠ 10 → (10 : UInt8) ∉ [k] ++ wrds zs := by
    intro k zs hk h
    simp only [List.cons_append, List.nil_append, List.mem_cons] at h
    rcases h with h | h
    · exact hk h.symm
    · exact wrds_no10 zs h
  simp only [bodies, List.mem_cons, List.mem_append, List.mem_map] at hb
  rcases hb with rfl | ⟨s, _, rfl⟩ | ⟨s, _, rfl⟩
  · exact key 68 _ (by decide) h
  · exact key 83 _ (by decide) h
  · exact key 82 _ (by decide) h
theorem nums_of {zs : List Int} (h : ∀ z ∈ zs, small z) : (zs.map fun z => decS z.toNat).all numOk = true ∧ (zs.map fun z => decS z.toNat).map numV = zs := by
  constructor
  · rw [List.all_eq_true]; intro l hl
    obtain ⟨z, hz, rfl⟩ := List.mem_map.1 hl
    have := h z hz; unfold small at this
    exact (dec_ok (by omega)).1
  · rw [List.map_map]
    refine (List.map_congr_left (g := id) fun z hz => ?_).trans (List.map_id zs)
    have := h z hz; unfold small at this
    simp only [Function.comp, id]
    rw [(dec_ok (by omega)).2]; omega
theorem line_of (r : Rd) (k : UInt8) (zs : List Int) (hk : k ≠ 32) (h : ∀ z ∈ zs, small z) : rdLine r ([k] ++ wrds zs) = rdVals r [k] zs := by
  have := nums_of h
  unfold rdLine
  rw [flds_line [k] zs (by simp) (by simpa using fun e => hk e.symm)]
  simp only []
  rw [if_pos this.1, this.2]
theorem go_stops (ss : List (List Int)) : ∀ (r : Rd) (i : Nat) (t : List (List UInt8)), r.head = true → r.stops.length + ss.length ≤ 7 → (∀ s ∈ ss, ∃ a b c d e, s = [a, b, c, d, e] ∧ stopOk a b c d e r.nodes = true) → (∀ s ∈ ss, ∀ z ∈ s, small z) →
    rdGo r i (ss.map (fun s => [83] ++ wrds s) ++ t) = rdGo { r with stops := r.stops ++ ss } (i + ss.length) t := by
  induction ss with
  | nil => intro r i t _ _ _ _; simp
  | cons s q ih =>
    intro r i t hh hl hs hz
    obtain ⟨a, b, c, d, e, rfl, hok⟩ := hs s (by simp)
    have hv : rdLine r ([83] ++ wrds [a, b, c, d, e]) = ({ r with stops := r.stops ++ [[a, b, c, d, e]] }, 0) := by
      rw [line_of r 83 _ (by decide) (hz _ (by simp))]
      unfold rdVals
      rw [if_neg (by decide), if_pos rfl]
      show rdStop r a b c d e = _
      unfold rdStop
      rw [if_neg (by simp [hh]), if_neg (by simp at hl; omega), if_pos hok]
    rw [List.map_cons, List.cons_append]
    show (if _ then _ else _) = _
    rw [hv, if_pos rfl]
    rw [ih { r with stops := r.stops ++ [[a, b, c, d, e]] } (i + 1) t hh (by simp at hl ⊢; omega) (fun s hs' => hs s (by simp [hs'])) (fun s hs' => hz s (by simp [hs']))]
    congr 1
    · simp
    · simp; omega
theorem go_roads (ss : List (List Int)) : ∀ (r : Rd) (i : Nat) (t : List (List UInt8)), r.head = true → r.roads.length + ss.length ≤ 40 → (∀ s ∈ ss, ∃ a b c, s = [a, b, c] ∧ roadOk a b c r.nodes = true) → (∀ s ∈ ss, ∀ z ∈ s, small z) →
    rdGo r i (ss.map (fun s => [82] ++ wrds s) ++ t) = rdGo { r with roads := r.roads ++ ss } (i + ss.length) t := by
  induction ss with
  | nil => intro r i t _ _ _ _; simp
  | cons s q ih =>
    intro r i t hh hl hs hz
    obtain ⟨a, b, c, rfl, hok⟩ := hs s (by simp)
    have hv : rdLine r ([82] ++ wrds [a, b, c]) = ({ r with roads := r.roads ++ [[a, b, c]] }, 0) := by
      rw [line_of r 82 _ (by decide) (hz _ (by simp))]
      unfold rdVals
      rw [if_neg (by decide), if_neg (by decide), if_pos rfl]
      show rdRoad r a b c = _
      unfold rdRoad
      rw [if_neg (by simp [hh]), if_neg (by simp at hl; omega), if_pos hok]
    rw [List.map_cons, List.cons_append]
    show (if _ then _ else _) = _
    rw [hv, if_pos rfl]
    rw [ih { r with roads := r.roads ++ [[a, b, c]] } (i + 1) t hh (by simp at hl ⊢; omega) (fun s hs' => hs s (by simp [hs'])) (fun s hs' => hz s (by simp [hs']))]
    congr 1
    · simp
    · simp; omega
theorem stopsL_length (ss : List (List Int)) (h : ∀ s ∈ ss, s.length = 5) : (stopsL ss).length ≤ 37 * ss.length := by
  unfold stopsL
  induction ss with
  | nil => simp
  | cons s t ih =>
    have h1 := lineL_length [83] s; have h2 := h s (by simp); have h3 := ih (fun s hs => h s (by simp [hs]))
    simp only [List.map_cons, List.flatten_cons, List.length_append, List.length_cons, List.length_nil] at h1 ⊢; omega
theorem roadsL_length (ss : List (List Int)) (h : ∀ s ∈ ss, s.length = 3) : (roadsL ss).length ≤ 23 * ss.length := by
  unfold roadsL
  induction ss with
  | nil => simp
  | cons s t ih =>
    have h1 := lineL_length [82] s; have h2 := h s (by simp); have h3 := ih (fun s hs => h s (by simp [hs]))
    simp only [List.map_cons, List.flatten_cons, List.length_append, List.length_cons, List.length_nil] at h1 ⊢; omega
theorem textL_length {r : Rd} (h : RdOk r) : (textL r).length ≤ 2000 := by
  have h1 := stopsL_length r.stops (fun s hs => (h.nice.stops s hs).1)
  have h2 := roadsL_length r.roads (fun s hs => (h.nice.roads s hs).1)
  have h3 := lineL_length [68] [r.vans, r.load, r.close, r.nodes, r.home]
  have h4 := h.nstops; have h5 := h.nroads
  unfold textL headL
  simp only [List.length_append, List.length_cons, List.length_nil] at h3 ⊢; omega
theorem parse_text {r : Rd} (h : RdOk r) : parseS (textL r) = (r, 0, 0) := by
  refine parse_ok (textL_length h) ?_ h.isHead
  rw [text_bodies, split_lines _ (bodies_no10 r)]
  unfold bodies
  have hv : rdLine Rd0 ([68] ++ wrds [r.vans, r.load, r.close, r.nodes, r.home]) = ({ vans := r.vans, load := r.load, close := r.close, nodes := r.nodes, home := r.home, stops := [], roads := [], head := true }, 0) := by
    rw [line_of Rd0 68 _ (by decide) h.nice.nums]
    unfold rdVals
    rw [if_pos rfl]
    show rdDepot Rd0 r.vans r.load r.close r.nodes r.home = _
    unfold rdDepot
    rw [if_neg (by simp [Rd0]), if_pos h.head]
  rw [List.cons_append]
  show (if _ then _ else _) = _
  rw [hv, if_pos rfl]
  have g1 := go_stops r.stops { vans := r.vans, load := r.load, close := r.close, nodes := r.nodes, home := r.home, stops := [], roads := [], head := true } (0 + 1) (r.roads.map (fun s => [82] ++ wrds s) ++ [[]]) rfl (by simpa using h.nstops) h.stops (fun s hs => (h.nice.stops s hs).2)
  have g2 := go_roads r.roads { vans := r.vans, load := r.load, close := r.close, nodes := r.nodes, home := r.home, stops := [] ++ r.stops, roads := [], head := true } (0 + 1 + r.stops.length) [[]] rfl (by simpa using h.nroads) h.roads (fun s hs => (h.nice.roads s hs).2)
  rw [List.append_assoc]
  refine g1.trans (g2.trans ?_)
  have hl : rdLine ({ vans := r.vans, load := r.load, close := r.close, nodes := r.nodes, home := r.home, stops := [] ++ r.stops, roads := [] ++ r.roads, head := true } : Rd) [] = ({ vans := r.vans, load := r.load, close := r.close, nodes := r.nodes, home := r.home, stops := [] ++ r.stops, roads := [] ++ r.roads, head := true }, 0) := rfl
  show (if _ then _ else _) = _
  rw [hl, if_pos rfl]
  show (_, 0, 0) = _
  have e : ({ vans := r.vans, load := r.load, close := r.close, nodes := r.nodes, home := r.home, stops := [] ++ r.stops, roads := [] ++ r.roads, head := true } : Rd) = r := by
    have := h.isHead
    cases r; simp at this ⊢; exact this
  rw [e]
end Go.Proofs.YtebinaopncclgaaDoor
