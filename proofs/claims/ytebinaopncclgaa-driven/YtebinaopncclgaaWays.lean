/- Walks: the ways of a text. -/
import Derived.Test.YtebinaopncclgaaBetw
namespace Go.Proofs.Ytebinaopncclgaa
open Go.RowKit Go.IntWalk

theorem retVI {a b : Value} {c d : Int} (h : a = b) (h' : c = d) : Ending.returned (.tuple #[a, .int .i64 c]) = .returned (.tuple #[b, .int .i64 d]) := by rw [h, h']
set_option maxRecDepth 100000 in
set_option maxHeartbeats 2000000 in
theorem ways_ok (s : ByteArray) (r : Rd) (w : World) (hs : s.size ≤ maxLen) (hp : parseS s.data.toList = (r, 0, 0)) (hok : RdOk r) :
    Calls Try.prog 9 #[.string s] w fun e w' => ∃ v, e = .returned (.tuple #[v, .int .i64 0]) ∧ Grid w' w.heap.size v (r.stops.length + 1) (fun i j => wayF r (siteN r i) (siteN r j)) ∧ Below w.heap.size w w' := by
  have hcP := fun W => parse_any s W hs
  rw [hp] at hcP
  have HCP := hide hcP
  have HOK := hide hok
  have hns := hok.nstops
  have hnr := hok.nroads
  clear hcP hok hp hs
  go_enter Try.func9, Try.ntmps9
  go_wp2_with fail
  refine (HCP.out _).mono ?_
  rintro e1 w1 ⟨vs, vr, rfl, hos, hor, hb1⟩
  have HOS := hide hos
  have HOR := hide hor
  have HB1 := hide hb1
  obtain ⟨aos, caps, rfl, _, _⟩ := own_val hos
  obtain ⟨aor, capr, rfl, _, _⟩ := own_val hor
  unfold inst
  clear hos hor hb1
  go_wp2_with fail
  refine (between_any w.heap.size w.heap.size r (.slice aos r.stops.length caps) (.slice aor r.roads.length capr) _ HOK.out (HOS.out.alloc _) (HOR.out.alloc _)).mono ?_
  rintro e2 w2 ⟨v, rfl, hg, hb2⟩
  have HG := hide hg
  have HB2 := hide hb2
  obtain ⟨g, rfl, _⟩ := hg
  clear hb2
  go_wp2
  go_ret2
  exact ⟨_, retVI rfl rfl, HG.out.base (by have := HB1.out.size; simp; omega), (HB1.out.alloc HB1.out.size _).trans (HB2.out.mono (by have := HB1.out.size; simp; omega))⟩

/- the node of a site -/
set_option maxRecDepth 100000 in
set_option maxHeartbeats 2000000 in
theorem spot_any (B i : Nat) (r : Rd) (vs vr : Value) (w : World) (hn : RdNice r) (hi : i < r.stops.length + 1) (hs : w.ownsRow B 60 5 vs r.stops.length (ints r.stops.flatten)) :
    Calls Try.prog 11 #[inst r vs vr, .int .i64 i] w fun e w' => e = .returned (.int .i64 ((sites r).getD i 0)) ∧ Below w.heap.size w w' := by
  have hns := hn.nstops
  obtain ⟨aos, caps, rfl, has, hsn⟩ := own_val hs
  unfold inst
  cases i with
  | zero =>
    clear hs has hsn
    go_enter Try.func11, Try.ntmps11
    go_wp2
    go_ret
    exact ⟨ret_int (by simp [sites]), below1 _ _⟩
  | succ k =>
    obtain ⟨g, rfl, hgl⟩ := some_of has hsn (by omega)
    have hlt : k < r.stops.length := by omega
    obtain ⟨a, b, c, d, e, hab⟩ := five (hn.stops _ (List.getElem_mem hlt)).1
    have x0 : w.cell? ⟨g, k * 5, none⟩ = some (.int .i64 a) := by
      have h1 := hs.cellAt (k * 5 + 0) (by omega)
      rw [flat_ints (fun s hs => (hn.stops s hs).1) hlt (by omega) (z := a) (by rw [hab]; rfl)] at h1
      exact h1
    have HS : Hid ((sites r).getD (k + 1) 0 = a) := by show _ = _; simp [sites, hlt, hab]
    have hne : ((k : Int) + 1 == 0) = false := by rw [beq_eq_false_iff_ne]; omega
    clear hab hs has hsn hn
    go_enter Try.func11, Try.ntmps11
    go_wp2
    go_ret
    exact ⟨ret_int HS.out.symm, below1 _ _⟩

/- a square of the right size -/
set_option maxHeartbeats 1000000 in
theorem square_any (n B : Nat) (v : Value) (D : Nat → Nat → Int) (w : World) (hn : n ≤ 100) (h : Grid w B v n D) :
    Calls Try.prog 12 #[v, .int .i64 n] w fun e w' => e = .returned (.bool true) ∧ w' = w := by
  obtain ⟨g, rfl, hg, hi⟩ := h
  have HI := hide hi
  have e0 : ((n : Int) != (n : Int)) = false := by simp
  clear hi
  go_enter Try.func12, Try.ntmps12
  go_wp2
  go_loop [5] (fun i => ∃ k : Nat, k ≤ n ∧ i = .int .i64 k) (fun i => n - (intOf i).toNat)
  case atStart => exact ⟨0, by omega, rfl⟩
  case round =>
    obtain ⟨k, hk, rfl⟩ := hrel
    by_cases hlt : k < n
    · obtain ⟨gi, h1, _, _⟩ := HI.out k hlt
      go_wp2
      go_round
      case rel => exact ⟨k + 1, by omega, by go_num⟩
      case measure => simp [intOf]; omega
    · go_wp2
      go_ret
      exact ⟨rfl, rfl⟩

/- the ways with one road more -/
def plusS (D : Nat → Nat → Int) (a b : Nat) (l : Int) (i j : Nat) : Int := if D i a ≠ -1 ∧ D b j ≠ -1 then shorterS (D i j) (D i a + l + D b j) else D i j
set_option maxRecDepth 100000 in
set_option maxHeartbeats 2000000 in
theorem added_any (n a b B B' : Nat) (l : Int) (v1 v2 : Value) (D E : Nat → Nat → Int) (w : World) (hn : n ≤ 100) (ha : a < n) (hb : b < n) (hl : 0 ≤ l ∧ l ≤ 10000) (h1 : Grid w B v1 n D) (h2 : Grid w B' v2 n E)
    (hD : ∀ i j, i < n → j < n → -1 ≤ D i j ∧ D i j ≤ 100000000) (hE : ∀ i j, i < n → j < n → E i j = plusS D a b l i j) :
    Calls Try.prog 13 #[v1, v2, .int .i64 a, .int .i64 b, .int .i64 l] w fun e w' => e = .returned (.bool true) ∧ ∃ m, w' = w.drewN m := by
  obtain ⟨g, rfl, hg, hi⟩ := h1
  obtain ⟨g', rfl, hg', hi'⟩ := h2
  have HI := hide hi
  have HI' := hide hi'
  have HD := hide hD
  have HE := hide hE
  clear hi hi' hD hE
  go_enter Try.func13, Try.ntmps13
  go_wp2
  go_loopw [11, 12, 13] (fun i _ _ wr => ∃ k : Nat, k ≤ n ∧ i = .int .i64 k ∧ ∃ m, wr = w.drewN m) (fun i _ _ _ => n - (intOf i).toNat)
  case atStart => exact ⟨0, by omega, rfl, 0, rfl⟩
  case round =>
    obtain ⟨k, hk, rfl, m, rfl⟩ := hrel
    by_cases hlt : k < n
    · obtain ⟨gi, r1, _, r2⟩ := HI.out k hlt
      obtain ⟨gb, r3, _, r4⟩ := HI.out b hb
      obtain ⟨ge, r5, _, r6⟩ := HI'.out k hlt
      have HR2 := hide r2
      have HR4 := hide r4
      have HR6 := hide r6
      clear r2 r4 r6
      go_wp2
      go_loopw [12, 13] (fun j _ wr => ∃ q : Nat, q ≤ n ∧ j = .int .i64 q ∧ ∃ m, wr = w.drewN m) (fun j _ _ => n - (intOf j).toNat)
      case atStart => exact ⟨0, by omega, rfl, m, rfl⟩
      case round =>
        obtain ⟨q, hq, rfl, m', rfl⟩ := hrel
        by_cases hlq : q < n
        · have c1 := HR2.out q hlq
          have c2 := HR2.out a ha
          have c3 := HR4.out q hlq
          have c4 := HR6.out q hlq
          have hE := HE.out k q hlt hlq
          have l1 := HD.out k a hlt ha
          have l2 := HD.out b q hb hlq
          have ik : (0 : Int) ≤ (k : Int) := by omega
          have iq : (0 : Int) ≤ (q : Int) := by omega
          have ia : (0 : Int) ≤ (a : Int) := by omega
          have ib : (0 : Int) ≤ (b : Int) := by omega
          have jk : (k : Int) < (n : Int) := by omega
          have jq : (q : Int) < (n : Int) := by omega
          have ja : (a : Int) < (n : Int) := by omega
          have jb : (b : Int) < (n : Int) := by omega
          unfold plusS at hE
          generalize D k q = dkq at *
          generalize D k a = dka at *
          generalize D b q = dbq at *
          generalize E k q = ekq at *
          by_cases e1 : dka = -1
          · have b1 : (dka != -1) = false := by simp [e1]
            rw [if_neg (by omega)] at hE
            have b3 : (ekq != dkq) = false := by simp [hE]
            have H1 := hide hE
            have H2 := hide e1
            clear hE e1
            go_wp2
            go_roundw
            case rel => exact ⟨q + 1, by omega, by go_num, m', rfl⟩
            case measure => simp [intOf]; omega
          · have b1 : (dka != -1) = true := by simp [e1]
            by_cases e2 : dbq = -1
            · have b2 : (dbq != -1) = false := by simp [e2]
              rw [if_neg (by omega)] at hE
              have b3 : (ekq != dkq) = false := by simp [hE]
              have H1 := hide hE
              have H2 := hide e2
              clear hE e2 e1
              go_wp2
              go_roundw
              case rel => exact ⟨q + 1, by omega, by go_num, m', rfl⟩
              case measure => simp [intOf]; omega
            · have b2 : (dbq != -1) = true := by simp [e2]
              rw [if_pos ⟨e1, e2⟩] at hE
              have b3 : (ekq != shorterS dkq (dka + l + dbq)) = false := by simp [hE]
              have hw1 : IntKind.i64.wrap (dka + l) = dka + l := i64_in _ (by omega)
              have hw2 : IntKind.i64.wrap (dka + l + dbq) = dka + l + dbq := i64_in _ (by omega)
              have H1 := hide hE
              clear hE e2 e1
              go_wp2_with fail
              go_region_held3 (fun w' => w'.cell? ⟨g, k, none⟩ = some (.slice (some ⟨gi, 0, none⟩) n n) ∧ w'.cell? ⟨gi, a, none⟩ = some (.int .i64 dka) ∧ w'.cell? ⟨g, b, none⟩ = some (.slice (some ⟨gb, 0, none⟩) n n) ∧ w'.cell? ⟨gb, q, none⟩ = some (.int .i64 dbq)) (go_keep)
                (first
                  | (go_at_call 28; refine (shorter_any _ _ _).mono ?_; rintro e w2 ⟨rfl, rfl⟩))
              go_wp2
              go_roundw
              case rel => exact ⟨q + 1, by omega, by go_num, m' + 1, rfl⟩
              case measure => simp [intOf]; omega
        · go_wp2
          go_roundw
          case rel => exact ⟨k + 1, by omega, by go_num, m', rfl⟩
          case measure => simp [intOf]; omega
    · go_wp2
      go_ret
      exact ⟨rfl, m, rfl⟩
end Go.Proofs.Ytebinaopncclgaa
