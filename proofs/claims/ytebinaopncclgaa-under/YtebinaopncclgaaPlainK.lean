/- Plain mathematics of the seat: instances with other roads. No program in sight. -/
import Derived.Test.YtebinaopncclgaaBetw
import Derived.Test.YtebinaopncclgaaPlainJ
namespace Go.Proofs.Ytebinaopncclgaa
open Go.RowKit Go.IntWalk

theorem retVI {a b : Value} {c d : Int} (h : a = b) (h' : c = d) : Ending.returned (.tuple #[a, .int .i64 c]) = .returned (.tuple #[b, .int .i64 d]) := by rw [h, h']
set_option maxRecDepth 100000 in
set_option maxHeartbeats 2000000 in
theorem ways_ok (s : ByteArray) (r : Rd) (w : World) (hs : s.size ≤ maxLen) (hp : parseS s.data.toList = (r, 0, 0)) (hok : RdOk r) :
    Calls Try.prog 9 #[.string s] w fun e w' => ∃ v, e = .returned (.tuple #[v, .int .i64 0]) ∧ Grid w' w.heap.size v (r.stops.length + 1) (fun i j => wayF r (siteN r i) (siteN r j)) ∧ Below w.heap.size w w' := by
  have hcP := fun W => parse_any s W hs
  rw [hp] at hcP
  have HCP := hide hcP
  have HOK := hide hok
  have hns := hok.nstops
  have hnr := hok.nroads
  clear hcP hok hp hs
  go_enter Try.func9, Try.ntmps9
  go_wp2_with fail
  refine (HCP.out _).mono ?_
  rintro e1 w1 ⟨vs, vr, rfl, hos, hor, hb1⟩
  have HOS := hide hos
  have HOR := hide hor
  have HB1 := hide hb1
  obtain ⟨aos, caps, rfl, _, _⟩ := own_val hos
  obtain ⟨aor, capr, rfl, _, _⟩ := own_val hor
  unfold inst
  clear hos hor hb1
  go_wp2_with fail
  refine (between_any w.heap.size w.heap.size r (.slice aos r.stops.length caps) (.slice aor r.roads.length capr) _ HOK.out (HOS.out.alloc _) (HOR.out.alloc _)).mono ?_
  rintro e2 w2 ⟨v, rfl, hg, hb2⟩
  have HG := hide hg
  have HB2 := hide hb2
  obtain ⟨g, rfl, _⟩ := hg
  clear hb2
  go_wp2
  go_ret2
  exact ⟨_, retVI rfl rfl, HG.out.base (by have := HB1.out.size; simp; omega), (HB1.out.alloc HB1.out.size _).trans (HB2.out.mono (by have := HB1.out.size; simp; omega))⟩

/- the node of a site -/
set_option maxRecDepth 100000 in
set_option maxHeartbeats 2000000 in
theorem spot_any (B i : Nat) (r : Rd) (vs vr : Value) (w : World) (hn : RdNice r) (hi : i < r.stops.length + 1) (hs : w.ownsRow B 60 5 vs r.stops.length (ints r.stops.flatten)) :
    Calls Try.prog 11 #[inst r vs vr, .int .i64 i] w fun e w' => e = .returned (.int .i64 ((sites r).getD i 0)) ∧ Below w.heap.size w w' := by
  have hns := hn.nstops
  obtain ⟨aos, caps, rfl, has, hsn⟩ := own_val hs
  unfold inst
  cases i with
  | zero =>
    clear hs has hsn
    go_enter Try.func11, Try.ntmps11
    go_wp2
    go_ret
    exact ⟨ret_int (by simp [sites]), below1 _ _⟩
  | succ k =>
    obtain ⟨g, rfl, hgl⟩ := some_of has hsn (by omega)
    have hlt : k < r.stops.length := by omega
    obtain ⟨a, b, c, d, e, hab⟩ := five (hn.stops _ (List.getElem_mem hlt)).1
    have x0 : w.cell? ⟨g, k * 5, none⟩ = some (.int .i64 a) := by
      have h1 := hs.cellAt (k * 5 + 0) (by omega)
      rw [flat_ints (fun s hs => (hn.stops s hs).1) hlt (by omega) (z := a) (by rw [hab]; rfl)] at h1
      exact h1
    have HS : Hid ((sites r).getD (k + 1) 0 = a) := by show _ = _; simp [sites, hlt, hab]
    have hne : ((k : Int) + 1 == 0) = false := by rw [beq_eq_false_iff_ne]; omega
    clear hab hs has hsn hn
    go_enter Try.func11, Try.ntmps11
    go_wp2
    go_ret
    exact ⟨ret_int HS.out.symm, below1 _ _⟩

/- a square of the right size -/
set_option maxHeartbeats 1000000 in
theorem square_any (n B : Nat) (v : Value) (D : Nat → Nat → Int) (w : World) (hn : n ≤ 100) (h : Grid w B v n D) :
    Calls Try.prog 12 #[v, .int .i64 n] w fun e w' => e = .returned (.bool true) ∧ w' = w := by
  obtain ⟨g, rfl, hg, hi⟩ := h
  have HI := hide hi
  have e0 : ((n : Int) != (n : Int)) = false := by simp
  clear hi
  go_enter Try.func12, Try.ntmps12
  go_wp2
  go_loop [5] (fun i => ∃ k : Nat, k ≤ n ∧ i = .int .i64 k) (fun i => n - (intOf i).toNat)
  case atStart => exact ⟨0, by omega, rfl⟩
  case round =>
    obtain ⟨k, hk, rfl⟩ := hrel
    by_cases hlt : k < n
    · obtain ⟨gi, h1, _, _⟩ := HI.out k hlt
      go_wp2
      go_round
      case rel => exact ⟨k + 1, by omega, by go_num⟩
      case measure => simp [intOf]; omega
    · go_wp2
      go_ret
      exact ⟨rfl, rfl⟩

/- the ways with one road more -/
def plusS (D : Nat → Nat → Int) (a b : Nat) (l : Int) (i j : Nat) : Int := if D i a ≠ -1 ∧ D b j ≠ -1 then shorterS (D i j) (D i a + l + D b j) else D i j
set_option maxRecDepth 100000 in
set_option maxHeartbeats 2000000 in
theorem added_any (n a b B B' : Nat) (l : Int) (v1 v2 : Value) (D E : Nat → Nat → Int) (w : World) (hn : n ≤ 100) (ha : a < n) (hb : b < n) (hl : 0 ≤ l ∧ l ≤ 10000) (h1 : Grid w B v1 n D) (h2 : Grid w B' v2 n E)
    (hD : ∀ i j, i < n → j < n → -1 ≤ D i j ∧ D i j ≤ 100000000) (hE : ∀ i j, i < n → j < n → E i j = plusS D a b l i j) :
    Calls Try.prog 13 #[v1, v2, .int .i64 a, .int .i64 b, .int .i64 l] w fun e w' => e = .returned (.bool true) ∧ ∃ m, w' = w.drewN m := by
  obtain ⟨g, rfl, hg, hi⟩ := h1
  obtain ⟨g', rfl, hg', hi'⟩ := h2
  have HI := hide hi
  have HI' := hide hi'
  have HD := hide hD
  have HE := hide hE
  clear hi hi' hD hE
  go_enter Try.func13, Try.ntmps13
  go_wp2
  go_loopw [11, 12, 13] (fun i _ _ wr => ∃ k : Nat, k ≤ n ∧ i = .int .i64 k ∧ ∃ m, wr = w.drewN m) (fun i _ _ _ => n - (intOf i).toNat)
  case atStart => exact ⟨0, by omega, rfl, 0, rfl⟩
  case round =>
    obtain ⟨k, hk, rfl, m, rfl⟩ := hrel
    by_cases hlt : k < n
    · obtain ⟨gi, r1, _, r2⟩ := HI.out k hlt
      obtain ⟨gb, r3, _, r4⟩ := HI.out b hb
      obtain ⟨ge, r5, _, r6⟩ := HI'.out k hlt
      have HR2 := hide r2
      have HR4 := hide r4
      have HR6 := hide r6
      clear r2 r4 r6
      go_wp2
      go_loopw [12, 13] (fun j _ wr => ∃ q : Nat, q ≤ n ∧ j = .int .i64 q ∧ ∃ m, wr = w.drewN m) (fun j _ _ => n - (intOf j).toNat)
      case atStart => exact ⟨0, by omega, rfl, m, rfl⟩
      case round =>
        obtain ⟨q, hq, rfl, m', rfl⟩ := hrel
        by_cases hlq : q < n
        · have c1 := HR2.out q hlq
          have c2 := HR2.out a ha
          have c3 := HR4.out q hlq
          have c4 := HR6.out q hlq
          have hE := HE.out k q hlt hlq
          have l1 := HD.out k a hlt ha
          have l2 := HD.out b q hb hlq
          have ik : (0 : Int) ≤ (k : Int) := by omega
          have iq : (0 : Int) ≤ (q : Int) := by omega
          have ia : (0 : Int) ≤ (a : Int) := by omega
          have ib : (0 : Int) ≤ (b : Int) := by omega
          have jk : (k : Int) < (n : Int) := by omega
          have jq : (q : Int) < (n : Int) := by omega
          have ja : (a : Int) < (n : Int) := by omega
          have jb : (b : Int) < (n : Int) := by omega
          unfold plusS at hE
          generalize D k q = dkq at *
          generalize D k a = dka at *
          generalize D b q = dbq at *
          generalize E k q = ekq at *
          by_cases e1 : dka = -1
          · have b1 : (dka != -1) = false := by simp [e1]
            rw [if_neg (by omega)] at hE
            have b3 : (ekq != dkq) = false := by simp [hE]
            have H1 := hide hE
            have H2 := hide e1
            clear hE e1
            go_wp2
            go_roundw
            case rel => exact ⟨q + 1, by omega, by go_num, m', rfl⟩
            case measure => simp [intOf]; omega
          · have b1 : (dka != -1) = true := by simp [e1]
            by_cases e2 : dbq = -1
            · have b2 : (dbq != -1) = false := by simp [e2]
              rw [if_neg (by omega)] at hE
              have b3 : (ekq != dkq) = false := by simp [hE]
              have H1 := hide hE
              have H2 := hide e2
              clear hE e2 e1
              go_wp2
              go_roundw
              case rel => exact ⟨q + 1, by omega, by go_num, m', rfl⟩
              case measure => simp [intOf]; omega
            · have b2 : (dbq != -1) = true := by simp [e2]
              rw [if_pos ⟨e1, e2⟩] at hE
              have b3 : (ekq != shorterS dkq (dka + l + dbq)) = false := by simp [hE]
              have hw1 : IntKind.i64.wrap (dka + l) = dka + l := i64_in _ (by omega)
              have hw2 : IntKind.i64.wrap (dka + l + dbq) = dka + l + dbq := i64_in _ (by omega)
              have H1 := hide hE
              clear hE e2 e1
              go_wp2_with fail
              go_region_held3 (fun w' => w'.cell? ⟨g, k, none⟩ = some (.slice (some ⟨gi, 0, none⟩) n n) ∧ w'.cell? ⟨gi, a, none⟩ = some (.int .i64 dka) ∧ w'.cell? ⟨g, b, none⟩ = some (.slice (some ⟨gb, 0, none⟩) n n) ∧ w'.cell? ⟨gb, q, none⟩ = some (.int .i64 dbq)) (go_keep)
                (first
                  | (go_at_call 28; refine (shorter_any _ _ _).mono ?_; rintro e w2 ⟨rfl, rfl⟩))
              go_wp2
              go_roundw
              case rel => exact ⟨q + 1, by omega, by go_num, m' + 1, rfl⟩
              case measure => simp [intOf]; omega
        · go_wp2
          go_roundw
          case rel => exact ⟨k + 1, by omega, by go_num, m', rfl⟩
          case measure => simp [intOf]; omega
    · go_wp2
      go_ret
      exact ⟨rfl, m, rfl⟩
end Go.Proofs.Ytebinaopncclgaa
namespace Go.Proofs.Ytebinaopncclgaa
open Go.RowKit

/- no way, as a great number -/
def ex (x : Int) : Int := if x = -1 then 1000000000 else x
theorem ex_range {x M : Int} (h : -1 ≤ x ∧ x ≤ M) (hM : M ≤ 100000000) : 0 ≤ ex x ∧ ex x ≤ 1000000000 ∧ (x ≠ -1 → ex x = x) ∧ (x = -1 → ex x = 1000000000) := by
  unfold ex; split
  · exact ⟨by omega, by omega, fun h => absurd ‹_› h, fun _ => rfl⟩
  · exact ⟨by omega, by omega, fun _ => rfl, fun h => absurd h ‹_›⟩
theorem ex_inj {x y : Int} (hx : -1 ≤ x ∧ x ≤ 100000000) (hy : -1 ≤ y ∧ y ≤ 100000000) (h : ex x = ex y) : x = y := by
  unfold ex at h; split at h <;> split at h <;> omega

/- the triangle's law -/
def Tri (N : Nat) (E : Nat → Nat → Int) : Prop := ∀ a b c, a < N → b < N → c < N → E a b ≤ E a c + E c b
theorem ex_gF {N v x y : Nat} {F : Nat → Nat → Int} (h : Lens N 40960000 F) (hv : v < N) (hx : x < N) (hy : y < N) :
    ex (gF v F x y) = min (ex (F x y)) (ex (F x v) + ex (F v y)) := by
  have a := h.2 x y hx hy; have b := h.2 x v hx hv; have c := h.2 v y hv hy
  have ea := ex_range a (by omega); have eb := ex_range b (by omega); have ec := ex_range c (by omega)
  unfold gF
  by_cases h1 : F x v ≠ -1 ∧ F v y ≠ -1
  · rw [if_pos h1]
    have e1 := eb.2.2.1 h1.1; have e2 := ec.2.2.1 h1.2
    unfold shortS
    by_cases h2 : F x y = -1
    · rw [if_pos (Or.inl h2), ea.2.2.2 h2, e1, e2]; unfold ex; rw [if_neg (by omega)]; omega
    · have e3 := ea.2.2.1 h2
      by_cases h3 : F x v + F v y < F x y
      · rw [if_pos (Or.inr h3), e1, e2, e3]; unfold ex; rw [if_neg (by omega)]; omega
      · rw [if_neg (by omega), e1, e2, e3]; omega
  · rw [if_neg h1]
    by_cases h2 : F x v = -1
    · have := eb.2.2.2 h2; omega
    · have h3 : F v y = -1 := by
        by_cases h4 : F v y = -1
        · exact h4
        · exact absurd ⟨h2, h4⟩ h1
      have := ec.2.2.2 h3; omega

/- through the nodes below v -/
def TriTo (N v : Nat) (E : Nat → Nat → Int) : Prop := ∀ a b c, a < N → b < N → c < v → E a b ≤ E a c + E c b
theorem fw_tri {N : Nat} {F : Nat → Nat → Int} (h : Lens N 10000 F) (hN : N ≤ 12) : ∀ v, v ≤ N → TriTo N v (fun x y => ex (fwF F v x y)) := by
  intro v
  induction v with
  | zero => intro _ a b c _ _ hc; omega
  | succ v ih =>
    intro hv a b c ha hb hc
    have hL := fw_lens12 h hN (show v ≤ N by omega)
    have I := ih (by omega)
    have hvN : v < N := by omega
    have g : ∀ x y, x < N → y < N → ex (fwF F (v + 1) x y) = min (ex (fwF F v x y)) (ex (fwF F v x v) + ex (fwF F v v y)) := fun x y hx hy => ex_gF hL hvN hx hy
    have pos : ∀ x y, x < N → y < N → 0 ≤ ex (fwF F v x y) := fun x y hx hy => (ex_range (hL.2 x y hx hy) (by omega)).1
    have hcN : c < N := by omega
    dsimp only
    rw [g a b ha hb, g a c ha hcN, g c b hcN hb]
    have hvv : ex (fwF F v v v) = 0 := by rw [hL.1 v hvN]; rfl
    by_cases hcv : c = v
    · subst hcv; rw [hvv]
      have := pos a c ha hcN; have := pos c b hcN hb
      omega
    · have hc' : c < v := by omega
      have i1 := I a b c ha hb hc'
      have i2 := I v b c hvN hb hc'
      have i3 := I a v c ha hvN hc'
      dsimp only at i1 i2 i3
      have p1 := pos v c hvN hcN; have p2 := pos c v hcN hvN; have p3 := pos a c ha hcN; have p4 := pos c b hcN hb; have p5 := pos a v ha hvN; have p6 := pos v b hvN hb
      omega
theorem fw_le {N : Nat} {F : Nat → Nat → Int} (h : Lens N 10000 F) (hN : N ≤ 12) : ∀ v, v ≤ N → ∀ x y, x < N → y < N → ex (fwF F v x y) ≤ ex (F x y) := by
  intro v
  induction v with
  | zero => intro _ x y _ _; exact Int.le_refl _
  | succ v ih =>
    intro hv x y hx hy
    have hL := fw_lens12 h hN (show v ≤ N by omega)
    have := ih (by omega) x y hx hy
    have g : ex (fwF F (v + 1) x y) = min (ex (fwF F v x y)) (ex (fwF F v x v) + ex (fwF F v v y)) := ex_gF hL (by omega) hx hy
    omega
/- whatever keeps the triangle's law and is not above F is not above the least ways -/
theorem fw_greatest {N : Nat} {F : Nat → Nat → Int} {M : Nat → Nat → Int} (h : Lens N 10000 F) (hN : N ≤ 12) (hT : Tri N M) (hM : ∀ x y, x < N → y < N → M x y ≤ ex (F x y)) :
    ∀ v, v ≤ N → ∀ x y, x < N → y < N → M x y ≤ ex (fwF F v x y) := by
  intro v
  induction v with
  | zero => intro _ x y hx hy; exact hM x y hx hy
  | succ v ih =>
    intro hv x y hx hy
    have hL := fw_lens12 h hN (show v ≤ N by omega)
    have hvN : v < N := by omega
    have g : ex (fwF F (v + 1) x y) = min (ex (fwF F v x y)) (ex (fwF F v x v) + ex (fwF F v v y)) := ex_gF hL hvN hx hy
    have i1 := ih (by omega) x y hx hy
    have i2 := ih (by omega) x v hx hvN
    have i3 := ih (by omega) v y hvN hy
    have t := hT x y v hx hy hvN
    omega
/- one road more -/
theorem fw_road {N p q : Nat} {F F' : Nat → Nat → Int} {l : Int} (h : Lens N 10000 F) (h' : Lens N 10000 F') (hN : N ≤ 12) (hp : p < N) (hq : q < N) (hl : 0 ≤ l ∧ l ≤ 10000)
    (hF : ∀ x y, x < N → y < N → ex (F' x y) = if x = p ∧ y = q then min (ex (F x y)) l else ex (F x y)) :
    ∀ x y, x < N → y < N → ex (fwF F' N x y) = min (ex (fwF F N x y)) (ex (fwF F N x p) + l + ex (fwF F N q y)) := by
  intro x y hx hy
  have hL := fw_lens12 h hN (Nat.le_refl N)
  have hL' := fw_lens12 h' hN (Nat.le_refl N)
  have T := fw_tri h hN N (Nat.le_refl _)
  have T' := fw_tri h' hN N (Nat.le_refl _)
  have pos : ∀ x y, x < N → y < N → 0 ≤ ex (fwF F N x y) := fun x y hx hy => (ex_range (hL.2 x y hx hy) (by omega)).1
  -- not below
  have low : min (ex (fwF F N x y)) (ex (fwF F N x p) + l + ex (fwF F N q y)) ≤ ex (fwF F' N x y) := by
    refine fw_greatest (M := fun x y => min (ex (fwF F N x y)) (ex (fwF F N x p) + l + ex (fwF F N q y))) h' hN ?_ ?_ N (Nat.le_refl _) x y hx hy
    · intro a b c ha hb hc
      have t1 := T a b c ha hb hc; have t2 := T a p c ha hp hc; have t3 := T q b c hq hb hc
      dsimp only at t1 t2 t3 ⊢
      have p1 := pos q c hq hc; have p2 := pos c p hc hp; have p3 := pos a c ha hc; have p4 := pos c b hc hb; have p5 := pos a p ha hp; have p6 := pos q b hq hb
      omega
    · intro a b ha hb
      rw [hF a b ha hb]
      have f := fw_le h hN N (Nat.le_refl _) a b ha hb
      split
      · rename_i e
        have e1 := e.1; have e2 := e.2
        subst e1; subst e2
        have z1 : ex (fwF F N a a) = 0 := by rw [hL.1 a ha]; rfl
        have z2 : ex (fwF F N b b) = 0 := by rw [hL.1 b hb]; rfl
        omega
      · omega
  -- not above
  have up1 : ex (fwF F' N x y) ≤ ex (fwF F N x y) := by
    refine fw_greatest (M := fun x y => ex (fwF F' N x y)) h hN (fun a b c ha hb hc => T' a b c ha hb hc) (fun a b ha hb => ?_) N (Nat.le_refl _) x y hx hy
    have f := fw_le h' hN N (Nat.le_refl _) a b ha hb
    rw [hF a b ha hb] at f
    split at f <;> omega
  have up2 : ∀ a b, a < N → b < N → ex (fwF F' N a b) ≤ ex (fwF F N a b) := by
    intro a b ha hb
    refine fw_greatest (M := fun x y => ex (fwF F' N x y)) h hN (fun a b c ha hb hc => T' a b c ha hb hc) (fun a b ha hb => ?_) N (Nat.le_refl _) a b ha hb
    have f := fw_le h' hN N (Nat.le_refl _) a b ha hb
    rw [hF a b ha hb] at f
    split at f <;> omega
  have f := fw_le h' hN N (Nat.le_refl _) p q hp hq
  rw [hF p q hp hq, if_pos ⟨rfl, rfl⟩] at f
  have t1 := T' x y p hx hy hp
  have t2 := T' p y q hp hy hq
  dsimp only at t1 t2
  have u1 := up2 x p hx hp
  have u2 := up2 q y hq hy
  omega
/- no roads: the diagonal alone -/
theorem fw_none {N : Nat} (hN : N ≤ 12) : ∀ x y, x < N → y < N → fwF diagS N x y = diagS x y := by
  intro x y hx hy
  have h := diag_lens N
  have hL := fw_lens12 h hN (Nat.le_refl N)
  have e1 := fw_le h hN N (Nat.le_refl _) x y hx hy
  have e2 : ex (diagS x y) ≤ ex (fwF diagS N x y) := by
    refine fw_greatest (M := fun x y => ex (diagS x y)) h hN ?_ (fun _ _ _ _ => Int.le_refl _) N (Nat.le_refl _) x y hx hy
    intro a b c _ _ _
    dsimp only
    have d : ∀ a b : Nat, ex (diagS a b) = if a = b then 0 else 1000000000 := by
      intro a b; unfold diagS ex; by_cases e : a = b <;> simp [e]
    rw [d, d, d]
    by_cases h1 : a = b
    · rw [if_pos h1]; split <;> split <;> omega
    · rw [if_neg h1]
      by_cases h2 : a = c
      · rw [if_pos h2, if_neg (by omega)]; omega
      · rw [if_neg h2]; split <;> omega
  refine ex_inj ?_ ?_ (by omega)
  · have := hL.2 x y hx hy; omega
  · have := h.2 x y hx hy; omega
end Go.Proofs.Ytebinaopncclgaa
namespace Go.Proofs.Ytebinaopncclgaa
open Go.RowKit

def withRoads (r : Rd) (rs : List (List Int)) : Rd := { r with roads := rs }
theorem ok_roads {r : Rd} (h : RdOk r) {rs : List (List Int)} (hr : ∀ s ∈ rs, ∃ a b c, s = [a, b, c] ∧ roadOk a b c r.nodes = true) (hl : rs.length ≤ 40) : RdOk (withRoads r rs) := ⟨h.head, h.stops, hr, h.nstops, hl, h.isHead⟩
theorem ok_cut {r : Rd} (h : RdOk r) (k : Nat) : RdOk (withRoads r (r.roads.take k)) := ok_roads h (fun s hs => h.roads s (List.mem_of_mem_take hs)) (by have := h.nroads; have := List.length_take_le k r.roads; simp; omega)
theorem ok_none {r : Rd} (h : RdOk r) : RdOk (withRoads r []) := ok_roads h (by simp) (by simp)
theorem site_ok {r : Rd} (h : RdOk r) {i : Nat} (hi : i < r.stops.length + 1) : 0 ≤ (sites r).getD i 0 ∧ (sites r).getD i 0 < r.nodes := by
  have hl : i < (sites r).length := by rw [sites_length]; exact hi
  rw [show (sites r).getD i 0 = (sites r)[i] by simp [hl]]
  exact sites_ok h _ (List.getElem_mem hl)
theorem ok_more {r : Rd} (h : RdOk r) {i j : Nat} (hi : i < r.stops.length + 1) (hj : j < r.stops.length + 1) {l : Int} (hl : 0 ≤ l ∧ l ≤ 10000) (hm : r.roads.length ≤ 39) : RdOk (withRoads r (r.roads ++ [[(sites r).getD i 0, (sites r).getD j 0, l]])) := by
  refine ok_roads h (fun s hs => ?_) (by simp; omega)
  simp only [List.mem_append, List.mem_singleton] at hs
  rcases hs with hs | rfl
  · exact h.roads s hs
  · have a := site_ok h hi; have b := site_ok h hj
    exact ⟨_, _, _, rfl, roadOk_iff.2 ⟨⟨a.1, a.2, b.1, b.2⟩, hl.1, hl.2⟩⟩
theorem ok_nodes {r : Rd} (h : RdOk r) : r.nodes = (r.nodes.toNat : Int) ∧ r.nodes.toNat ≤ 12 := by
  have hh := headOk_iff.1 h.head; omega
theorem ok_lens {r : Rd} (h : RdOk r) : Lens r.nodes.toNat 10000 (roadsF r.roads) := roads_lens r.roads (by rw [← (ok_nodes h).1]; exact h.roads) _ (diag_lens _)
theorem way_range {r : Rd} (h : RdOk r) {x y : Nat} (hx : x < r.nodes.toNat) (hy : y < r.nodes.toNat) : -1 ≤ wayF r x y ∧ wayF r x y ≤ 40960000 := (fw_lens12 (ok_lens h) (ok_nodes h).2 (Nat.le_refl _)).2 x y hx hy
theorem way_none {r : Rd} (h : RdOk r) {x y : Nat} (hx : x < r.nodes.toNat) (hy : y < r.nodes.toNat) : wayF (withRoads r []) x y = diagS x y := fw_none (ok_nodes h).2 x y hx hy
theorem ex_short {x l : Int} (_hx : -1 ≤ x ∧ x ≤ 10000) (hl : 0 ≤ l ∧ l ≤ 10000) : ex (shortS x l) = min (ex x) l := by
  unfold shortS ex
  by_cases h1 : x = -1
  · rw [if_pos (Or.inl h1), if_neg (by omega), if_pos h1]; omega
  · rw [if_neg h1]
    by_cases h2 : l < x
    · rw [if_pos (Or.inr h2), if_neg (by omega)]; omega
    · have h3 : ¬ (x = -1 ∨ l < x) := by omega
      simp only [if_neg h3, if_neg h1]; omega
theorem ex_plus {x y z l : Int} (hx : -1 ≤ x ∧ x ≤ 40960000) (hy : -1 ≤ y ∧ y ≤ 40960000) (hz : -1 ≤ z ∧ z ≤ 40960000) (hl : 0 ≤ l ∧ l ≤ 10000) :
    ex (if y ≠ -1 ∧ z ≠ -1 then shorterS x (y + l + z) else x) = min (ex x) (ex y + l + ex z) ∧ -1 ≤ (if y ≠ -1 ∧ z ≠ -1 then shorterS x (y + l + z) else x) ∧ (if y ≠ -1 ∧ z ≠ -1 then shorterS x (y + l + z) else x) ≤ 100000000 := by
  have ax := ex_range hx (by omega); have ay := ex_range hy (by omega); have az := ex_range hz (by omega)
  by_cases h : y ≠ -1 ∧ z ≠ -1
  · rw [if_pos h, ay.2.2.1 h.1, az.2.2.1 h.2]
    unfold shorterS
    by_cases h1 : x = -1
    · rw [if_pos (Or.inl h1), ax.2.2.2 h1]; unfold ex; rw [if_neg (by omega)]; omega
    · rw [ax.2.2.1 h1]
      by_cases h2 : y + l + z < x
      · rw [if_pos (Or.inr ⟨by omega, h2⟩)]; unfold ex; rw [if_neg (by omega)]; omega
      · rw [if_neg (by omega), ax.2.2.1 h1]; omega
  · rw [if_neg h]
    refine ⟨?_, by omega, by omega⟩
    by_cases h1 : y = -1
    · have := ay.2.2.2 h1; omega
    · have h2 : z = -1 := by
        by_cases h3 : z = -1
        · exact h3
        · exact absurd ⟨h1, h3⟩ h
      have := az.2.2.2 h2; omega
/- the ways with one road more, between sites -/
theorem way_more {r : Rd} (h : RdOk r) {a b : Nat} (ha : a < r.stops.length + 1) (hb : b < r.stops.length + 1) {l : Int} (hl : 0 ≤ l ∧ l ≤ 10000) (hm : r.roads.length ≤ 39) :
    ∀ i j, i < r.stops.length + 1 → j < r.stops.length + 1 → wayF (withRoads r (r.roads ++ [[(sites r).getD a 0, (sites r).getD b 0, l]])) (siteN r i) (siteN r j) = plusS (fun i j => wayF r (siteN r i) (siteN r j)) a b l i j := by
  intro i j hi hj
  have h' := ok_more h ha hb hl hm
  obtain ⟨hN, hN12⟩ := ok_nodes h
  have s : ∀ k, k < r.stops.length + 1 → siteN r k < r.nodes.toNat := fun k hk => siteN_lt h hN hk
  have hF : ∀ x y, x < r.nodes.toNat → y < r.nodes.toNat → ex (roadsF (r.roads ++ [[(sites r).getD a 0, (sites r).getD b 0, l]]) x y) = if x = siteN r a ∧ y = siteN r b then min (ex (roadsF r.roads x y)) l else ex (roadsF r.roads x y) := by
    intro x y hx hy
    have e : roadsF (r.roads ++ [[(sites r).getD a 0, (sites r).getD b 0, l]]) = roadF (roadsF r.roads) [(sites r).getD a 0, (sites r).getD b 0, l] := by unfold roadsF; rw [List.foldl_append]; rfl
    rw [e]
    show ex (if x = siteN r a ∧ y = siteN r b then shortS (roadsF r.roads (siteN r a) (siteN r b)) l else roadsF r.roads x y) = _
    by_cases q : x = siteN r a ∧ y = siteN r b
    · rw [if_pos q, if_pos q, q.1, q.2]; exact ex_short ((ok_lens h).2 _ _ (s a ha) (s b hb)) hl
    · rw [if_neg q, if_neg q]
  have hL' : Lens r.nodes.toNat 10000 (roadsF (r.roads ++ [[(sites r).getD a 0, (sites r).getD b 0, l]])) := ok_lens h'
  have key := fw_road (ok_lens h) hL' hN12 (s a ha) (s b hb) hl hF _ _ (s i hi) (s j hj)
  have r1 := way_range h (s i hi) (s j hj)
  have r2 := way_range h (s i hi) (s a ha)
  have r3 := way_range h (s b hb) (s j hj)
  have r4 := way_range h' (x := siteN r i) (y := siteN r j) (s i hi) (s j hj)
  have pl := ex_plus r1 r2 r3 hl
  refine ex_inj (by omega) ⟨pl.2.1, pl.2.2⟩ ?_
  exact key.trans pl.1.symm
theorem diag_site {r : Rd} (h : RdOk r) {i j : Nat} (hi : i < r.stops.length + 1) (hj : j < r.stops.length + 1) : wayF (withRoads r []) (siteN r i) (siteN r j) = if (sites r).getD i 0 = (sites r).getD j 0 then 0 else -1 := by
  obtain ⟨hN, _⟩ := ok_nodes h
  rw [way_none h (siteN_lt h hN hi) (siteN_lt h hN hj)]
  have a := site_ok h hi; have b := site_ok h hj
  unfold diagS siteN
  by_cases e : (sites r).getD i 0 = (sites r).getD j 0
  · rw [if_pos e, if_pos (by rw [e])]
  · rw [if_neg e, if_neg (by omega)]
end Go.Proofs.Ytebinaopncclgaa
