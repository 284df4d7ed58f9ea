/- Walks: the document's least sum. -/
import Derived.Test.YtebinaopncclgaaGreatDoorLSum
import Derived.Test.YtebinaopncclgaaGreatDoorLPlain
import Derived.Laws.BitsLemmas
import Derived.StillTailTactics
namespace Go.Proofs.YtebinaopncclgaaGreatDoor
open Go.RowKit Go.IntWalk

/- the table, set by set and column by column -/
def lowStep (n : Nat) (C : Nat → Nat → Int) (b : Nat → Int) (s j : Nat) : Nat → Int :=
  if s.testBit j = false ∧ b s ≠ -1 ∧ C (pcB n s) j ≠ -1 then up1 b (addB s j) (shorterS (b (addB s j)) (b s + C (pcB n s) j)) else b
def lowJ (n : Nat) (C : Nat → Nat → Int) (b : Nat → Int) (s : Nat) : Nat → Nat → Int
  | 0 => b
  | j + 1 => lowStep n C (lowJ n C b s j) s j
def lowS (n : Nat) (C : Nat → Nat → Int) : Nat → Nat → Int
  | 0 => fun t => if t = 0 then 0 else -1
  | s + 1 => lowJ n C (lowS n C s) s n
theorem bit_and (s q : Nat) (hs : s < 2 ^ 62) : bits .and .i64 ((s : Int) / 2 ^ q) 1 = if s.testBit q = true then 1 else 0 := by
  have hk : ∀ n : Int, 0 ≤ n → n < 2 ^ 62 → IntKind.i64.wrap n = n := fun n h1 h2 => by rw [IntKind.wrap_i64]; omega
  have e : ((s : Int) / 2 ^ q) = ((s / 2 ^ q : Nat) : Int) := by simp
  have hlt : s / 2 ^ q < 2 ^ 62 := Nat.lt_of_le_of_lt (Nat.div_le_self _ _) hs
  have h := (bits_nat .i64 62 (by decide) hk (s / 2 ^ q) 1 hlt (by decide)).1
  rw [e]
  rw [show ((1 : Int)) = ((1 : Nat) : Int) from rfl, h, Nat.and_one_is_mod]
  have h2 : s.testBit q = decide (s / 2 ^ q % 2 = 1) := by rw [Nat.testBit_eq_decide_div_mod_eq]
  rw [h2]
  by_cases hb : s / 2 ^ q % 2 = 1
  · rw [if_pos (by simpa using hb), hb]
  · rw [if_neg (by simpa using hb), show s / 2 ^ q % 2 = 0 by omega]
    rfl
theorem bit_or (s q : Nat) (hs : s < 2 ^ 62) (hq : q < 62) : bits .or .i64 (s : Int) (wrap64 (2 ^ q)) = (addB s q : Int) := by
  have hk : ∀ n : Int, 0 ≤ n → n < 2 ^ 62 → IntKind.i64.wrap n = n := fun n h1 h2 => by rw [IntKind.wrap_i64]; omega
  have hp : 2 ^ q < 2 ^ 62 := Nat.pow_lt_pow_right (by omega) hq
  have e : wrap64 ((2 : Int) ^ q) = ((2 ^ q : Nat) : Int) := by
    have e1 : ((2 : Int) ^ q) = ((2 ^ q : Nat) : Int) := by simp
    rw [e1]
    obtain ⟨m, hm⟩ : ∃ m, m = 2 ^ q := ⟨_, rfl⟩
    rw [← hm] at hp ⊢
    exact wrap64_in _ (by omega)
  rw [e]
  exact (bits_nat .i64 62 (by decide) hk s (2 ^ q) hs hp).2
theorem dn_next (s q : Nat) : (dnN (q + 1) s.testBit : Int) = dnN q s.testBit + if s.testBit q = true then 1 else 0 := by
  unfold dnN
  rw [List.range_succ, List.filter_append, List.length_append]
  cases h : s.testBit q <;> simp [h]
theorem shorter_ne {a b : Int} (h : b ≠ -1) : shorterS a b = if a = -1 ∨ b < a then b else a := by
  unfold shorterS
  by_cases h1 : a = -1 ∨ b < a
  · rw [if_pos h1, if_pos (by omega)]
  · rw [if_neg h1, if_neg (by omega)]
/- what the table keeps to -/
theorem low_step {n : Nat} {C : Nat → Nat → Int} {Φ : Nat → Int → Prop} {b : Nat → Int} (hcl : Clo n C Φ) (hc : CellOk n C) (h : LInv n C Φ b) {s j : Nat} (hs : s < 2 ^ n) (hj : j < n) : LInv n C Φ (lowStep n C b s j) := by
  unfold lowStep
  by_cases hh : s.testBit j = false ∧ b s ≠ -1 ∧ C (pcB n s) j ≠ -1
  · rw [if_pos hh]
    have hpc := pc_lt hj hh.1
    have hc1 := hc (pcB n s) j hpc hj
    have hv := (h.val s hs hh.2.1).1
    rw [shorter_ne (by have := hh.2.2; omega)]
    exact linv_step hcl (fun i j hi hj => by have := hc i j hi hj; omega) h hs hj hh.1 hh.2.1 hh.2.2
  · rw [if_neg hh]; exact h
theorem low_j {n : Nat} {C : Nat → Nat → Int} {Φ : Nat → Int → Prop} {b : Nat → Int} (hcl : Clo n C Φ) (hc : CellOk n C) (h : LInv n C Φ b) {s : Nat} (hs : s < 2 ^ n) : ∀ j, j ≤ n → LInv n C Φ (lowJ n C b s j) := by
  intro j
  induction j with
  | zero => intro _; exact h
  | succ j ih => intro hj; exact low_step hcl hc (ih (by omega)) hs (by omega)
theorem low_zero {n : Nat} {C : Nat → Nat → Int} {Φ : Nat → Int → Prop} (hcl : Clo n C Φ) : LInv n C Φ (lowS n C 0) :=
  ⟨rfl, fun t _ hne => by
    unfold lowS at hne ⊢
    by_cases h : t = 0
    · rw [if_pos h, h]; exact ⟨Int.le_refl _, hcl.zero⟩
    · rw [if_neg h] at hne; exact absurd rfl hne⟩
theorem low_s {n : Nat} {C : Nat → Nat → Int} {Φ : Nat → Int → Prop} (hcl : Clo n C Φ) (hc : CellOk n C) : ∀ s, s ≤ 2 ^ n → LInv n C Φ (lowS n C s) := by
  intro s
  induction s with
  | zero => intro _; exact low_zero hcl
  | succ s ih => intro hs; exact low_j hcl hc (ih (by omega)) (by omega) n (Nat.le_refl _)
theorem clo_bd {n : Nat} {C : Nat → Nat → Int} (hc : CellOk n C) : Clo n C (fun s x => x ≤ 200000 * (pcB n s : Int)) :=
  ⟨by rw [pc_zero]; simp, fun s j x _ hj hb _ hx => by
    have := hc (pcB n s) j (pc_lt hj hb) hj
    rw [pc_add hj hb]; omega⟩
theorem low_same {n : Nat} {C : Nat → Nat → Int} {b : Nat → Int} {s j t : Nat} (h : t ≤ s) : lowStep n C b s j t = b t := by
  unfold lowStep
  by_cases hh : s.testBit j = false ∧ b s ≠ -1 ∧ C (pcB n s) j ≠ -1
  · rw [if_pos hh]
    have := lt_add hh.1
    unfold up1; rw [if_neg (by omega)]
  · rw [if_neg hh]
theorem lowJ_same {n : Nat} {C : Nat → Nat → Int} {b : Nat → Int} {s t : Nat} (h : t ≤ s) : ∀ j, lowJ n C b s j t = b t := by
  intro j
  induction j with
  | zero => rfl
  | succ j ih => show lowStep n C _ s j t = _; rw [low_same h, ih]
theorem lowJ_none {n : Nat} {C : Nat → Nat → Int} {b : Nat → Int} {s : Nat} (h : b s = -1) : ∀ j, lowJ n C b s j = b := by
  intro j
  induction j with
  | zero => rfl
  | succ j ih =>
    show lowStep n C (lowJ n C b s j) s j = b
    rw [ih]
    unfold lowStep
    rw [if_neg (fun hh => hh.2.1 h)]
theorem low_mono {n : Nat} {C : Nat → Nat → Int} {b : Nat → Int} (hc : CellOk n C) (hb : ∀ t, t < 2 ^ n → b t ≠ -1 → 0 ≤ b t) {s j : Nat} (hs : s < 2 ^ n) (hj : j < n) : (∀ t, b t ≠ -1 → lowStep n C b s j t ≠ -1 ∧ lowStep n C b s j t ≤ b t) ∧ (s.testBit j = false → b s ≠ -1 → C (pcB n s) j ≠ -1 → lowStep n C b s j (addB s j) ≠ -1 ∧ lowStep n C b s j (addB s j) ≤ b s + C (pcB n s) j) := by
  unfold lowStep
  by_cases hh : s.testBit j = false ∧ b s ≠ -1 ∧ C (pcB n s) j ≠ -1
  · rw [if_pos hh]
    have hc1 := hc (pcB n s) j (pc_lt hj hh.1) hj
    have h0 := hb s hs hh.2.1
    have hne : b s + C (pcB n s) j ≠ -1 := by have := hh.2.2; omega
    rw [shorter_ne hne]
    refine ⟨fun t ht => ?_, fun _ _ _ => ?_⟩
    · unfold up1
      by_cases e : t = addB s j
      · rw [if_pos e]
        rw [e] at ht ⊢
        by_cases h2 : b (addB s j) = -1 ∨ b s + C (pcB n s) j < b (addB s j)
        · rw [if_pos h2]
          rcases h2 with h2 | h2
          · exact absurd h2 ht
          · exact ⟨hne, by omega⟩
        · rw [if_neg h2]; exact ⟨ht, Int.le_refl _⟩
      · rw [if_neg e]; exact ⟨ht, Int.le_refl _⟩
    · unfold up1
      rw [if_pos rfl]
      by_cases h2 : b (addB s j) = -1 ∨ b s + C (pcB n s) j < b (addB s j)
      · rw [if_pos h2]; exact ⟨hne, Int.le_refl _⟩
      · rw [if_neg h2]
        have h3 : ¬ b (addB s j) = -1 := fun e => h2 (.inl e)
        have h4 : ¬ b s + C (pcB n s) j < b (addB s j) := fun e => h2 (.inr e)
        exact ⟨h3, by omega⟩
  · rw [if_neg hh]
    exact ⟨fun t ht => ⟨ht, Int.le_refl _⟩, fun h1 h2 h3 => absurd ⟨h1, h2, h3⟩ hh⟩
theorem low_way {n : Nat} {C : Nat → Nat → Int} (hc : CellOk n C) {col u v : Nat → Int} {cost : Int} (ht : Tight n C col u v cost) : ∀ s, s ≤ 2 ^ n → LWay n C col (lowS n C s) s 0 := by
  have hbd := clo_bd hc
  intro s
  induction s with
  | zero => intro _; exact lway_begin n C col _
  | succ s ih =>
    intro hs
    have key : ∀ j, j ≤ n → LWay n C col (lowJ n C (lowS n C s) s j) s j := by
      intro j
      induction j with
      | zero => intro _; exact ih (by omega)
      | succ j ihj =>
        intro hj
        have hi := low_j hbd hc (low_s hbd hc s (by omega)) (s := s) (by omega) j (by omega)
        have hm := low_mono hc (fun t ht hne => (hi.val t ht hne).1) (s := s) (j := j) (by omega) (by omega)
        exact lway_step ht hi.zero (ihj (by omega)) (by omega) hm.1 hm.2
    exact lway_next ht (key n (Nat.le_refl _))
/- the last entry is the least sum, or tells that there is none -/
theorem low_tight {n : Nat} {C : Nat → Nat → Int} (hc : CellOk n C) {col u v : Nat → Int} {cost : Int} (ht : Tight n C col u v cost) : lowS n C (2 ^ n) (2 ^ n - 1) = cost :=
  lowest_tight ht (low_s (clo_dual ht.under) hc _ (Nat.le_refl _)) (low_way hc ht _ (Nat.le_refl _))
theorem low_short {n : Nat} {C : Nat → Nat → Int} (hc : CellOk n C) {S T : Nat → Bool} (h : Short n C S T) : lowS n C (2 ^ n) (2 ^ n - 1) = -1 :=
  lowest_short h (low_s (clo_hall h) hc _ (Nat.le_refl _))
/- a row of numbers with room behind it -/
def RowC (w : World) (g n : Nat) (f : Nat → Int) : Prop := ∃ cs, w.heap[g]? = some (.cells cs 3 (0, 0)) ∧ n ≤ cs.size ∧ ∀ i, i < n → cs[i]? = some (.int .i64 (f i))
theorem RowC.lt {w : World} {g n : Nat} {f : Nat → Int} (h : RowC w g n f) : g < w.heap.size := by obtain ⟨cs, hc, _⟩ := h; exact (Array.getElem?_eq_some_iff.1 hc).1
theorem RowC.cell {w : World} {g n i : Nat} {f : Nat → Int} (h : RowC w g n f) (hi : i < n) : w.cell? ⟨g, i, none⟩ = some (.int .i64 (f i)) := by
  obtain ⟨cs, hc, _, hf⟩ := h
  rw [cell_of_row _ _ _ _ _ _ hc]; exact hf i hi
theorem RowC.frozen {w : World} {g n : Nat} {f : Nat → Int} (h : RowC w g n f) (k : Nat) : w.frozen? ⟨g, k, none⟩ = false := by obtain ⟨cs, hc, _⟩ := h; exact frozen_of_row w g k _ _ hc
theorem RowC.block {w w' : World} {g n : Nat} {f : Nat → Int} (h : RowC w g n f) (hb : w'.heap[g]? = w.heap[g]?) : RowC w' g n f := by
  obtain ⟨cs, hc, h2⟩ := h; exact ⟨cs, hb.trans hc, h2⟩
theorem RowC.put {w : World} {g n k : Nat} {f : Nat → Int} (h : RowC w g n f) (hk : k < n) (x : Int) : RowC (w.setCell ⟨g, k, none⟩ (.int .i64 x)) g n (up1 f k x) := by
  have h0 := h.cell hk
  obtain ⟨cs, hc, hs, hf⟩ := id h
  have hb := heap_setCell_same w g k cs 3 (.int .i64 x) hc
  refine ⟨_, hb, by simpa using hs, fun i hi => ?_⟩
  have h1 := net_cells hc h0 (.int .i64 x) (h.cell hi)
  rw [cell_of_row _ _ _ _ _ _ hb] at h1
  rw [h1]
  unfold up1
  by_cases e : i = k
  · rw [if_pos e, if_pos e]
  · rw [if_neg e, if_neg e]

set_option maxRecDepth 100000 in
set_option maxHeartbeats 4000000 in
theorem rlowest_any (n : Nat) (C : Nat → Nat → Int) (vc : Value) (w : World) (hsq : SqI w vc n C) (hc : CellOk n C) :
    Calls Tryz.prog 82 #[vc] w fun e w' => e = .returned (.int .i64 (lowS n C (2 ^ n) (2 ^ n - 1))) ∧ Below w.heap.size w w' := by
  obtain ⟨i0, hi, hz0, hz1, hz2⟩ := info_parts Tryz.infoInt
  obtain ⟨af, cf, rfl, hn, hq⟩ := hsq
  have HQ := hid hq
  have HC := hid hc
  obtain ⟨N, hN⟩ : ∃ N : Nat, N = 2 ^ n := ⟨_, rfl⟩
  have hN1 : 1 ≤ N ∧ N ≤ 1024 := by
    rw [hN]; exact ⟨Nat.two_pow_pos n, Nat.le_trans (Nat.pow_le_pow_right (by omega) hn) (by decide)⟩
  have hw : wrap64 (2 ^ n) = (N : Int) := by
    have e : ((2 : Int) ^ n) = (N : Int) := by rw [hN]; simp
    rw [e]; exact wrap64_in _ (by omega)
  rw [← hN]
  have HN := hid hN
  clear hq hc hN
  go_enter Tryz.func82, Tryz.ntmps82
  go_wp2_with fail
  go_loopw [4, 5] (fun lv i wr => ∃ k : Nat, k ≤ N ∧ i = .int .i64 k ∧ Hid (wr.ownsRow w.heap.size 3 1 lv k (ints (List.replicate k (-1)))) ∧ Hid (Below w.heap.size w wr)) (fun _ i _ => N - (intOf i).toNat)
  case atStart => exact ⟨0, Nat.zero_le _, rfl, World.ownsRow_nil _ _ _ _, Below.refl _ _⟩
  case round =>
    obtain ⟨k, hk, rfl, HO, HB⟩ := hrel
    obtain ⟨al, cl, rfl, _, _⟩ := own_val HO.out
    have hbs := HB.out.size
    by_cases hlt : k < N
    · have HT : Hid (List.replicate (k + 1) (-1 : Int) = List.replicate k (-1) ++ [-1]) := by show _ = _; rw [List.replicate_succ']
      go_wp2_with (first
        | (at_builtin; refine wpList_append_own _ rfl _ _ 53 rfl w.heap.size 3 i0 (.int .i64 0) 1 8 Tryz.underlying53 hi hz0 hz1 hz2 rfl (by decide) _ _ _ rfl (HO.out.alloc _) ⟨wr.heap.size, 0, none⟩ 1 1 [.int .i64 (-1)] rfl rfl ?c1 ?c2 ?c3 ?c4 ?c5 ?_)
        | go_in)
      case c1 => exact cell_one_new _ _ _
      case c2 => intro u hu; simp at hu; subst hu; rfl
      case c3 => unfold maxLen; omega
      case c4 => omega
      case c5 => simp; omega
      intro v' w2 hown' hgrow _
      have HO' := hid hown'
      have HG := hid hgrow
      clear hown' hgrow
      go_wp2
      go_roundw
      case rel =>
        refine ⟨k + 1, by omega, by go_num, ?_, ?_⟩
        · show World.ownsRow _ _ _ _ _ _ _
          rw [HT.out, ints_append]; exact HO'.out
        · exact (HB.out.alloc (by omega) _).grown HG.out (by simp; omega) (fun q hq => by have := (HO.out.lt q hq).1; omega)
      case measure => simp [intOf]; omega
    · have hke : k = N := by omega
      subst hke
      obtain ⟨g, cap, cur, hv, hgb, hgg, hcap⟩ := own_shape HO.out (by omega)
      cases hv
      obtain ⟨_, cur2, hg2, hg3, hg4⟩ := own_row HO.out
      have HR0 : Hid (RowC wr g k (fun _ => -1)) := ⟨cur2, hg2, by omega, fun i hi => by rw [hg4 i hi]; unfold ints; simp [hi]⟩
      have HR1 : Hid (RowC (wr.setCell ⟨g, 0, none⟩ (.int .i64 0)) g k (lowS n C 0)) := by
        have h := HR0.out.put (k := 0) (by omega) 0
        have e : up1 (fun _ => (-1 : Int)) 0 0 = lowS n C 0 := by funext t; unfold up1 lowS; rfl
        rw [e] at h; exact h
      have HB1 : Hid (Below w.heap.size w (wr.setCell ⟨g, 0, none⟩ (.int .i64 0))) := HB.out.setCell (by exact hgb) _
      have hgl := HR0.out.lt
      have c0 := HR0.out.cell (i := 0) (by omega)
      have fz := HR0.out.frozen 0
      have hkp : (0 : Int) < (k : Int) := by omega
      clear hg2 hg3 hg4 hgg HO
      obtain ⟨w1, hw1⟩ : ∃ w1, w1 = wr.setCell ⟨g, 0, none⟩ (.int .i64 0) := ⟨_, rfl⟩
      rw [← hw1] at HR1 HB1
      go_wp2_with go_in
      rw [← hw1]
      clear hw1 c0 fz hgl HR0 HB hlt hk hbs hkp
      go_loopw [6] (fun i wr => ∃ s : Nat, s ≤ k ∧ i = .int .i64 s ∧ Hid (RowC wr g k (lowS n C s)) ∧ Hid (Below w.heap.size w wr)) (fun i _ => k - (intOf i).toNat)
      case atStart => exact ⟨0, Nat.zero_le _, rfl, HR1, HB1⟩
      case round =>
        clear HR1 HB1
        obtain ⟨s, hs, rfl, HR, HB⟩ := hrel
        by_cases hls : s < k
        · obtain ⟨w2, hw2⟩ : ∃ w2, w2 = wr := ⟨_, rfl⟩
          rw [← hw2] at HR HB
          go_wp2_with go_in
          rw [← hw2]
          go_loopw [7, 8] (fun rv j wr => ∃ q : Nat, q ≤ n ∧ j = .int .i64 q ∧ rv = .int .i64 (dnN q s.testBit) ∧ wr = w2) (fun _ j _ => n - (intOf j).toNat)
          case atStart => exact ⟨0, Nat.zero_le _, rfl, rfl, rfl⟩
          case round =>
            clear hw2
            obtain ⟨q, hq, rfl, rfl, rfl⟩ := hrel
            by_cases hlq : q < n
            · have hba := bit_and s q (by omega)
              have HD := hid (dn_next s q)
              have hdl := dnN_le q s.testBit
              obtain ⟨bt, hbt⟩ : ∃ bt : Int, bt = if s.testBit q = true then 1 else 0 := ⟨_, rfl⟩
              have hbb : 0 ≤ bt ∧ bt ≤ 1 := by rw [hbt]; split <;> omega
              rw [← hbt] at hba HD
              have wz : wrap64 ((dnN q s.testBit : Int) + bt) = (dnN q s.testBit : Int) + bt := wrap64_in _ (by omega)
              clear hbt
              go_wp2_with go_in
              go_roundw
              case rel => exact ⟨q + 1, by omega, by go_num, by rw [HD.out], by first | rfl | trivial⟩
              case measure => simp [intOf]; omega
            · obtain rfl : q = n := by omega
              have hpc : (dnN q s.testBit : Int) = (pcB q s : Int) := rfl
              rw [hpc]
              have hdl : pcB q s ≤ q := dnN_le q s.testBit
              obtain ⟨row, hrow⟩ : ∃ row, row = pcB q s := ⟨_, rfl⟩
              rw [← hrow] at hdl ⊢
              have HROW := hid hrow
              have HBD := hid (clo_bd HC.out)
              have HS0 := hid (low_s HBD.out HC.out s (by rw [← HN.out]; omega))
              have hs2 : s < 2 ^ q := by rw [← HN.out]; exact hls
              have HSJ := hid (fun j (hj : j ≤ q) => low_j HBD.out HC.out HS0.out hs2 j hj)
              have HSM := hid (fun j => lowJ_same (n := q) (C := C) (b := lowS q C s) (s := s) (t := s) (Nat.le_refl _) j)
              clear hrow hpc hlq hq hs2
              obtain ⟨w3, hw3⟩ : ∃ w3, w3 = wr := ⟨_, rfl⟩
              rw [← hw3] at HR HB
              go_wp2_with fail
              rw [← hw3]
              clear hw3
              go_loopw [9] (fun j wr => ∃ x : Nat, x ≤ q ∧ j = .int .i64 x ∧ Hid (RowC wr g k (lowJ q C (lowS q C s) s x)) ∧ Hid (Below w.heap.size w wr)) (fun j _ => q - (intOf j).toNat)
              case atStart => exact ⟨0, Nat.zero_le _, rfl, HR, HB⟩
              case round =>
                clear HR HB
                obtain ⟨x, hx, rfl, HR, HB⟩ := hrel
                have b0 := HR.out.cell (i := s) hls
                rw [HSM.out x] at b0
                have hgl := HR.out.lt
                have is : (0 : Int) ≤ (s : Int) := by omega
                have js : (s : Int) < (k : Int) := by omega
                by_cases hlx : x < q
                · have dx : decide (x < q) = true := by simpa using hlx
                  have hba := bit_and s x (by omega)
                  have hbo := bit_or s x (by omega) (by omega)
                  have hto : addB s x < k := by rw [HN.out]; exact add_lt (by rw [← HN.out]; exact hls) hlx
                  have HLI := HSJ.out x hx
                  have hs2 : s < 2 ^ q := by rw [← HN.out]; exact hls
                  obtain ⟨bs, hbs⟩ : ∃ bs, bs = lowS q C s s := ⟨_, rfl⟩
                  rw [← hbs] at b0
                  have HBS := hid hbs
                  by_cases hb1 : bs = -1
                  · have c1 : (bs != (-1 : Int)) = false := by simp [hb1]
                    have HE : Hid (lowJ q C (lowS q C s) s x = lowS q C (s + 1)) := by
                      show _ = lowJ q C (lowS q C s) s q
                      rw [lowJ_none (by rw [← hbs]; exact hb1), lowJ_none (by rw [← hbs]; exact hb1)]
                    clear hb1 hbs
                    go_wp2_with go_in
                    go_roundw
                    case rel => exact ⟨s + 1, by omega, by go_num, by rw [← HE.out]; first | exact HR | exact HR.out.block rfl, by first | exact HB | exact HB.out.drew⟩
                    case measure => simp [intOf]; omega
                  · have c1 : (bs != (-1 : Int)) = true := by simpa using hb1
                    by_cases hbit : s.testBit x = true
                    · rw [if_pos hbit] at hba
                      have HE : Hid (lowJ q C (lowS q C s) s (x + 1) = lowJ q C (lowS q C s) s x) := by
                        show lowStep q C _ s x = _
                        unfold lowStep; rw [if_neg (fun hh => by rw [hbit] at hh; cases hh.1)]
                      clear hb1 hbit hbs
                      go_wp2_with go_in
                      go_roundw
                      case rel => exact ⟨x + 1, by omega, by go_num, by rw [HE.out]; first | exact HR | exact HR.out.block rfl, by first | exact HB | exact HB.out.drew⟩
                      case measure => simp [intOf]; omega
                    · have hbf : s.testBit x = false := by simpa using hbit
                      rw [if_neg hbit] at hba
                      have hrq : row < q := by rw [HROW.out]; exact pc_lt hlx hbf
                      obtain ⟨b, o, b', o', ci, hao, hbl, hcl, hbl', hrw⟩ := HQ.out row hrq
                      subst hao
                      have x0 : wr.cell? ⟨b, o + row, none⟩ = _ := (HB.out.cell (by exact hbl)).trans hcl
                      have x1 : b < wr.heap.size := Nat.lt_of_lt_of_le hbl HB.out.size
                      have x2 : wr.cell? ⟨b', o' + x, none⟩ = _ := (HB.out.cell (by exact hbl')).trans (hrw x hlx)
                      have x3 : b' < wr.heap.size := Nat.lt_of_lt_of_le hbl' HB.out.size
                      have ir : (0 : Int) ≤ (row : Int) := by omega
                      have jr : (row : Int) < (q : Int) := by omega
                      have ix : (0 : Int) ≤ (x : Int) := by omega
                      have jx : (x : Int) < (q : Int) := by omega
                      have hcc := HC.out row x hrq hlx
                      obtain ⟨d, hd⟩ : ∃ d, d = C row x := ⟨_, rfl⟩
                      rw [← hd] at x2 hcc
                      by_cases hd1 : d = -1
                      · have c2 : (d != (-1 : Int)) = false := by simp [hd1]
                        have HE : Hid (lowJ q C (lowS q C s) s (x + 1) = lowJ q C (lowS q C s) s x) := by
                          show lowStep q C _ s x = _
                          unfold lowStep; rw [if_neg (fun hh => hh.2.2 (by rw [← HROW.out, ← hd]; exact hd1))]
                        clear hb1 hbit hbs hd1 hd hrw hbf
                        go_wp2_with go_in
                        go_roundw
                        case rel => exact ⟨x + 1, by omega, by go_num, by rw [HE.out]; first | exact HR | exact HR.out.block rfl, by first | exact HB | exact HB.out.drew | exact below_drewN' HB.out _⟩
                        case measure => simp [intOf]; omega
                      · have c2 : (d != (-1 : Int)) = true := by simpa using hd1
                        obtain ⟨y, hy⟩ : ∃ y, y = addB s x := ⟨_, rfl⟩
                        rw [← hy] at hbo hto
                        have b1 := HR.out.cell (i := y) hto
                        have fz := HR.out.frozen y
                        have iy : (0 : Int) ≤ (y : Int) := by omega
                        have jy : (y : Int) < (k : Int) := by omega
                        have hv : 0 ≤ bs ∧ bs ≤ 200000 * ((pcB q s : Nat) : Int) := by rw [hbs]; exact HS0.out.val s hs2 (by rw [← hbs]; exact hb1)
                        rw [← HROW.out] at hv
                        have wz : wrap64 (bs + d) = bs + d := wrap64_in _ (by omega)
                        have HE : Hid (lowJ q C (lowS q C s) s (x + 1) = up1 (lowJ q C (lowS q C s) s x) y (shorterS (lowJ q C (lowS q C s) s x y) (bs + d))) := by
                          show lowStep q C _ s x = _
                          unfold lowStep
                          rw [if_pos ⟨hbf, by rw [HSM.out, ← hbs]; exact hb1, by rw [← HROW.out, ← hd]; exact hd1⟩, ← hy, HSM.out, ← hbs, ← HROW.out, ← hd]
                        obtain ⟨by1, hby⟩ : ∃ by1, by1 = lowJ q C (lowS q C s) s x y := ⟨_, rfl⟩
                        rw [← hby] at b1 HE
                        clear hb1 hbit hbs hd1 hd hrw hbf hy hby hv
                        go_wp2_with go_in
                        clear hw dx hba hbo c2
                        refine wp_region_still_tail 20 (by kernel_rfl) (by kernel_rfl) ?_
                        change wpStill _ _ (World.drew _) _ _ _
                        simp only [List.take_succ_cons, List.take_zero, List.drop_succ_cons, List.drop_zero]
                        repeat still_step
                        still_call (least_any _ _ _)
                        repeat still_step
                        refine wpStill_nil ?_
                        go_wp2_with go_in
                        go_roundw
                        case rel => exact ⟨x + 1, by omega, by go_num, by rw [HE.out]; exact (HR.out.put hto _).block rfl, (HB.out.setCell (by exact hgb) _).drew⟩
                        case measure => simp [intOf]; omega
                · have hxe : x = q := by omega
                  have dx : decide (x < q) = false := by simpa using hlx
                  have HE : Hid (lowJ q C (lowS q C s) s x = lowS q C (s + 1)) := by show _ = lowJ q C (lowS q C s) s q; rw [hxe]
                  clear hxe
                  go_wp2_with go_in
                  go_roundw
                  case rel => exact ⟨s + 1, by omega, by go_num, by rw [← HE.out]; first | exact HR | exact HR.out.block rfl, by first | exact HB | exact HB.out.drew⟩
                  case measure => simp [intOf]; omega
        · have hse : s = k := by omega
          subst hse
          have b0 := HR.out.cell (i := s - 1) (by omega)
          have hgl := HR.out.lt
          obtain ⟨m, hm⟩ : ∃ m, s = m + 1 := ⟨s - 1, by omega⟩
          have HM : Hid (s - 1 = m) := by show _ = _; omega
          rw [HM.out] at b0
          have wz : wrap64 ((s : Int) - 1) = (m : Int) := by rw [wrap64_in _ (by omega)]; omega
          have im : (0 : Int) ≤ (m : Int) := by omega
          have jm : (m : Int) < (s : Int) := by omega
          clear hm hls hs hN1
          go_wp2_with go_in
          go_ret
          exact ⟨by rw [HM.out]; rfl, HB.out⟩
end Go.Proofs.YtebinaopncclgaaGreatDoor
