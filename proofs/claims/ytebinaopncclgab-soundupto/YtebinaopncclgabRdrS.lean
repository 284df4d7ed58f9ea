/- Walks: the reader's stops. -/
import Derived.Test.YtebinaopncclgabBase
import Derived.Test.YtebinaopncclgabPlainB
import Derived.WalkKit
import Derived.Deep.RegionLaw
import Derived.Test.YtebinaopncclgabNums
import Derived.Test.YtebinaopncclgabPlainC
import Derived.Test.YtebinaopncclgabFrame
import Derived.Deep.RegionWith
namespace Go.Proofs.Ytebinaopncclgab
open Go.RowKit Go.IntWalk

theorem Try.infoStr : (Try.prog.info? 9).map (fun i => (i.zero, i.size, i.bytes)) = some (some (.string ByteArray.empty), 1, 16) := by kernel_rfl

/- What a round that appends one string does. -/
theorem own_str {w wr w1 : World} {B : Nat} {v v' : Value} {ps : List (List UInt8)} {x : List UInt8} (hB : B ≤ wr.heap.size) (hown : wr.ownsRow B 9 1 v ps.length (strs ps)) (hbel : Below B w wr)
    {o : Obj} (hown' : w1.ownsRow B 9 1 v' (ps.length + 1) (strs ps ++ [.string ⟨x.toArray⟩])) (hgrow : (wr.alloc o).grownBy w1 v.ownBlock) :
    w1.ownsRow B 9 1 v' (ps ++ [x]).length (strs (ps ++ [x])) ∧ Below B w w1 := by
  refine ⟨by rw [strs_append, List.length_append]; exact hown', ?_⟩
  exact (hbel.alloc hB o).grown hgrow (by simp; omega) (fun k hk => (hown.lt k hk).1)

set_option maxHeartbeats 800000 in
theorem lines_any (s : ByteArray) (w : World) (hs : s.size ≤ 1000000) :
    Calls Try.prog 21 #[.string s] w fun e w' => ∃ v, e = .returned v ∧ w'.ownsRow w.heap.size 9 1 v (splitB 10 s.data.toList).length (strs (splitB 10 s.data.toList)) ∧ Below w.heap.size w w' := by
  obtain ⟨i0, hi, hz0, hz1, hz2⟩ := info_parts Try.infoStr
  obtain ⟨l, hl⟩ : ∃ l, l = s.data.toList := ⟨_, rfl⟩
  have hsz : s.size = l.length := by rw [hl]; simp
  have HL : Hid (l = s.data.toList) := hl
  have HSZ : Hid (s.size = l.length) := hsz
  have hs1 : s.size ≤ l.length := by omega
  have hs2 : l.length ≤ s.size := by omega
  clear hl hsz
  go_enter Try.func21, Try.ntmps21
  go_wp2
  go_loopw [3, 4, 5] (fun v bg i wr => ∃ k b : Nat, k ≤ s.size ∧ b ≤ k ∧ i = .int .i64 k ∧ bg = .int .i64 b ∧ Hid (lnC l k = (l.drop b).take (k - b)) ∧ (lnP l k).length ≤ k ∧ wr.ownsRow w.heap.size 9 1 v (lnP l k).length (strs (lnP l k)) ∧ Below w.heap.size w wr) (fun _ _ i _ => s.size - (intOf i).toNat)
  case atStart => exact ⟨0, 0, Nat.zero_le _, Nat.le_refl _, rfl, rfl, rfl, Nat.le_refl _, World.ownsRow_nil _ _ _ _, Below.refl _ _⟩
  case round =>
    obtain ⟨k, b, hk, hb, rfl, rfl, HC, hlen, hown, hbel⟩ := hrel
    have hsize := hbel.size
    by_cases hlt : k < s.size
    · have hll : k < l.length := by omega
      have HX : Hid (s[k] = l[k]) := by show s[k] = l[k]; subst HL; rfl
      by_cases hc : l[k] = 10
      · have hcb : ((s[k].toNat : Int) == 10) = true := by rw [HX.out, hc]; rfl
        clear hs1 hs2
        go_wp2_with (first
          | (at_builtin; refine wpList_append_own _ rfl _ _ 62 rfl w.heap.size 9 i0 (.string ByteArray.empty) 1 16 Try.underlying62 hi hz0 hz1 hz2 rfl (by decide) _ _ _ rfl (hown.alloc _) ⟨wr.heap.size, 0, none⟩ 1 1 [.string (s.extract b k)] rfl rfl ?c1 ?c2 ?c3 ?c4 ?c5 ?_)
          | go_in)
        case c1 => exact cell_one_new _ _ _
        case c2 => intro u hu; simp at hu; subst hu; rfl
        case c3 => unfold maxLen; omega
        case c4 => omega
        case c5 => simp; omega
        · intro v' w1 hown' hgrow _
          rw [str_cut] at hown'
          have R := own_str hsize hown hbel hown' hgrow
          clear hown' hgrow hown hbel
          go_wp2
          go_roundw
          case rel =>
            obtain ⟨e1, e2⟩ := ln_hit hll hc
            refine ⟨k + 1, k + 1, by omega, Nat.le_refl _, by go_num, by go_num, ?_, ?_, ?_, R.2⟩
            · show _ = _; rw [e2]; simp
            · rw [e1]; simp; omega
            · rw [e1, HC.out]; subst HL; exact R.1
          case measure => simp [intOf]; omega
      · have hcb : ((s[k].toNat : Int) == 10) = false := by
          rw [beq_eq_false_iff_ne]; intro e; exact hc (by rw [← HX.out]; exact UInt8.toNat_inj.1 (by have h10 : (10 : UInt8).toNat = 10 := rfl; omega))
        go_wp2
        go_roundw
        case rel =>
          obtain ⟨e1, e2⟩ := ln_miss hll hc
          refine ⟨k + 1, b, by omega, by omega, by go_num, rfl, ?_, ?_, ?_, hbel⟩
          · show _ = _; rw [e2, HC.out]; exact cut_snoc hb hll
          · rw [e1]; omega
          · rw [e1]; exact hown
        case measure => simp [intOf]; omega
    · have hke : k = s.size := by omega
      subst hke
      go_wp2_with (first
          | (at_builtin; refine wpList_append_own _ rfl _ _ 62 rfl w.heap.size 9 i0 (.string ByteArray.empty) 1 16 Try.underlying62 hi hz0 hz1 hz2 rfl (by decide) _ _ _ rfl (hown.alloc _) ⟨wr.heap.size, 0, none⟩ 1 1 [.string (s.extract b s.size)] rfl rfl ?d1 ?d2 ?d3 ?d4 ?d5 ?_)
          | go_in)
      case d1 => exact cell_one_new _ _ _
      case d2 => intro u hu; simp at hu; subst hu; rfl
      case d3 => unfold maxLen; omega
      case d4 => omega
      case d5 => simp; omega
      · intro v' w1 hown' hgrow _
        rw [str_cut] at hown'
        have R := own_str hsize hown hbel hown' hgrow
        clear hown' hgrow hown hbel
        go_wp2
        go_ret
        refine ⟨v', rfl, ?_, R.2⟩
        have e1 := ln_end (l := l) (k := s.size) (by omega)
        rw [HC.out] at e1
        subst HL
        rw [e1]; exact R.1

set_option maxHeartbeats 1000000 in
theorem fields_any (s : ByteArray) (w : World) (hs : s.size ≤ 1000000) :
    Calls Try.prog 34 #[.string s] w fun e w' => ∃ v, e = .returned v ∧ w'.ownsRow w.heap.size 9 1 v (flds s.data.toList).length (strs (flds s.data.toList)) ∧ Below w.heap.size w w' := by
  obtain ⟨i0, hi, hz0, hz1, hz2⟩ := info_parts Try.infoStr
  obtain ⟨l, hl⟩ : ∃ l, l = s.data.toList := ⟨_, rfl⟩
  have hsz : s.size = l.length := by rw [hl]; simp
  have HL : Hid (l = s.data.toList) := hl
  have hs1 : s.size ≤ l.length := by omega
  have hs2 : l.length ≤ s.size := by omega
  clear hl hsz
  go_enter Try.func34, Try.ntmps34
  go_wp2
  go_loopw [3, 4, 5] (fun v bg i wr => ∃ k b : Nat, k ≤ s.size ∧ b ≤ k ∧ i = .int .i64 k ∧ bg = .int .i64 b ∧ Hid (fdC l k = (l.drop b).take (k - b)) ∧ (fdP l k).length ≤ k ∧ wr.ownsRow w.heap.size 9 1 v (fdP l k).length (strs (fdP l k)) ∧ Below w.heap.size w wr) (fun _ _ i _ => s.size - (intOf i).toNat)
  case atStart => exact ⟨0, 0, Nat.zero_le _, Nat.le_refl _, rfl, rfl, rfl, Nat.le_refl _, World.ownsRow_nil _ _ _ _, Below.refl _ _⟩
  case round =>
    obtain ⟨k, b, hk, hb, rfl, rfl, HC, hlen, hown, hbel⟩ := hrel
    have hsize := hbel.size
    by_cases hlt : k < s.size
    · have hll : k < l.length := by omega
      have HX : Hid (s[k] = l[k]) := by show s[k] = l[k]; subst HL; rfl
      by_cases hc : l[k] = 32
      · have hcb : ((s[k].toNat : Int) != 32) = false := by rw [HX.out, hc]; rfl
        by_cases hbk : b < k
        · clear hs1 hs2
          go_wp2_with (first
            | (at_builtin; refine wpList_append_own _ rfl _ _ 62 rfl w.heap.size 9 i0 (.string ByteArray.empty) 1 16 Try.underlying62 hi hz0 hz1 hz2 rfl (by decide) _ _ _ rfl (hown.alloc _) ⟨wr.heap.size, 0, none⟩ 1 1 [.string (s.extract b k)] rfl rfl ?c1 ?c2 ?c3 ?c4 ?c5 ?_)
            | go_in)
          case c1 => exact cell_one_new _ _ _
          case c2 => intro u hu; simp at hu; subst hu; rfl
          case c3 => unfold maxLen; omega
          case c4 => omega
          case c5 => simp; omega
          · intro v' w1 hown' hgrow _
            rw [str_cut] at hown'
            have R := own_str hsize hown hbel hown' hgrow
            clear hown' hgrow hown hbel
            go_wp2
            go_roundw
            case rel =>
              obtain ⟨e1, e2⟩ := fd_hit hll hc (by rw [HC.out]; exact cut_ne hbk (by omega))
              refine ⟨k + 1, k + 1, by omega, Nat.le_refl _, by go_num, by go_num, ?_, ?_, ?_, R.2⟩
              · show _ = _; rw [e2]; simp
              · rw [e1]; simp; omega
              · rw [e1, HC.out]; subst HL; exact R.1
            case measure => simp [intOf]; omega
        · go_wp2
          go_roundw
          case rel =>
            obtain ⟨e1, e2⟩ := fd_void hll hc (by rw [HC.out, show k - b = 0 by omega]; simp)
            refine ⟨k + 1, k + 1, by omega, Nat.le_refl _, by go_num, by go_num, ?_, ?_, ?_, hbel⟩
            · show _ = _; rw [e2]; simp
            · rw [e1]; omega
            · rw [e1]; exact hown
          case measure => simp [intOf]; omega
      · have hcb : ((s[k].toNat : Int) != 32) = true := by
          rw [bne_iff_ne]; intro e; exact hc (by rw [← HX.out]; exact UInt8.toNat_inj.1 (by have h10 : (32 : UInt8).toNat = 32 := rfl; omega))
        go_wp2
        go_roundw
        case rel =>
          obtain ⟨e1, e2⟩ := fd_miss hll hc
          refine ⟨k + 1, b, by omega, by omega, by go_num, rfl, ?_, ?_, ?_, hbel⟩
          · show _ = _; rw [e2, HC.out]; exact cut_snoc hb hll
          · rw [e1]; omega
          · rw [e1]; exact hown
        case measure => simp [intOf]; omega
    · have hke : k = s.size := by omega
      subst hke
      by_cases hbk : b < s.size
      · go_wp2_with (first
          | (at_builtin; refine wpList_append_own _ rfl _ _ 62 rfl w.heap.size 9 i0 (.string ByteArray.empty) 1 16 Try.underlying62 hi hz0 hz1 hz2 rfl (by decide) _ _ _ rfl (hown.alloc _) ⟨wr.heap.size, 0, none⟩ 1 1 [.string (s.extract b s.size)] rfl rfl ?d1 ?d2 ?d3 ?d4 ?d5 ?_)
          | go_in)
        case d1 => exact cell_one_new _ _ _
        case d2 => intro u hu; simp at hu; subst hu; rfl
        case d3 => unfold maxLen; omega
        case d4 => omega
        case d5 => simp; omega
        · intro v' w1 hown' hgrow _
          rw [str_cut] at hown'
          have R := own_str hsize hown hbel hown' hgrow
          clear hown' hgrow hown hbel
          go_wp2
          go_ret
          refine ⟨v', rfl, ?_, R.2⟩
          have e1 := fd_end (l := l) (k := s.size) (by omega)
          rw [HC.out, if_neg (cut_ne hbk (by omega))] at e1
          subst HL
          rw [e1]; exact R.1
      · go_wp2
        go_ret
        refine ⟨_, rfl, ?_, hbel⟩
        have e1 := fd_end (l := l) (k := s.size) (by omega)
        rw [HC.out, show s.size - b = 0 by omega] at e1
        subst HL
        rw [e1]; simpa using hown
end Go.Proofs.Ytebinaopncclgab
namespace Go.Proofs.Ytebinaopncclgab
open Go.RowKit Go.IntWalk

set_option maxHeartbeats 400000 in
theorem headFits_any (v l c n h : Int) (vs vr : Value) (w : World) :
    Calls Try.prog 39 #[.agg #[.int .i64 v, .int .i64 l, .int .i64 c, .int .i64 n, .int .i64 h, vs, vr]] w fun e w' => e = .returned (.bool (headOk v l c n h)) ∧ Below w.heap.size w w' := by
  go_enter Try.func39, Try.ntmps39
  go_wp2_with (go_at_call 51; refine (allFit_n _ 2 [l, c] _ _ rfl (by omega) (cells2 (by simp [go_sem]) (by simp [go_sem]))).mono ?_; rintro e w' ⟨rfl, rfl⟩)
  all_goals
    go_ret
    first
      | exact ⟨ret_bool (headOk_no (by omega)).symm, below1 _ _⟩
      | exact ⟨ret_bool (headOk_yes (by omega)).symm, below2 _ _ _⟩

set_option maxHeartbeats 400000 in
theorem stopFits_any (a b c d e n : Int) (w : World) :
    Calls Try.prog 40 #[.agg #[.int .i64 a, .int .i64 b, .int .i64 c, .int .i64 d, .int .i64 e], .int .i64 n] w fun r w' => r = .returned (.bool (stopOk a b c d e n)) ∧ Below w.heap.size w w' := by
  go_enter Try.func40, Try.ntmps40
  go_wp2_with (go_at_call 51; refine (allFit_n _ 4 [b, c, d, e] _ _ rfl (by omega) (cells4 (by simp [go_sem]) (by simp [go_sem]) (by simp [go_sem]) (by simp [go_sem]))).mono ?_; rintro e w' ⟨rfl, rfl⟩)
  all_goals
    go_ret
    first
      | exact ⟨ret_bool (stopOk_no (by omega)).symm, below1 _ _⟩
      | exact ⟨ret_bool (stopOk_yes (by omega)).symm, below2 _ _ _⟩

set_option maxHeartbeats 400000 in
theorem roadFits_any (a b c n : Int) (w : World) :
    Calls Try.prog 41 #[.agg #[.int .i64 a, .int .i64 b, .int .i64 c], .int .i64 n] w fun r w' => r = .returned (.bool (roadOk a b c n)) ∧ Below w.heap.size w w' := by
  go_enter Try.func41, Try.ntmps41
  go_wp2_with (go_at_call 51; refine (allFit_n _ 1 [c] _ _ rfl (by omega) (cells1 (by simp [go_sem]))).mono ?_; rintro e w' ⟨rfl, rfl⟩)
  all_goals
    go_ret
    first
      | exact ⟨ret_bool (roadOk_no (by omega)).symm, below1 _ _⟩
      | exact ⟨ret_bool (roadOk_yes (by omega)).symm, below2 _ _ _⟩
end Go.Proofs.Ytebinaopncclgab
namespace Go.Proofs.Ytebinaopncclgab
open Go Go.RowKit

theorem step_append_own {P : Program} {ops : Array Oper} {o : Oper} {a : Act} {w : World} {K : Act → World → Prop} {Q : Exit → Act → World → Prop} {E : Prop}
    (hg : o.guard = none) (s x : Operand) (t : TypeId) (hop : o.op = Op.call { callee := Callee.builtin Builtin.append, args := #[s, x], argTypes := #[t, t] })
    (base : Nat) (e : TypeId) (i : TypeInfo) (z : Value) (size bytes : Nat) (h1 : P.underlying t = some (.slice e)) (h2 : P.info? e = some i) (h3 : i.zero = some z) (h4 : i.size = size) (h5 : i.bytes = bytes) (h6 : z.cells.size = size) (h7 : 0 < size)
    (v : Value) (n : Nat) (xs : List Value) (hs : a.eval s = v) (hown : w.ownsRow base e size v n xs)
    (ad : Addr) (m c : Nat) (news : List Value) (hx : a.eval x = .slice (some ad) m c) (hn : news.length = m * size) (hc : ∀ j u, news[j]? = some u → w.cell? (ad.add j) = some u) (h1c : ∀ u ∈ news, u.oneCell' = true)
    (b1 : n + m ≤ maxLen) (b2 : (n + m) * bytes ≤ 140737488355328) (b3 : base ≤ w.heap.size)
    (hK : ∀ v' w', w'.ownsRow base e size v' (n + m) (xs ++ news) → w.grownBy w' v.ownBlock → K (a.put o.dst v') w') :
    if Region.wanted o (yielded ops a.tmps) = true then Oper.wp P o a w K Q else E := by
  have hw : Region.wanted o (yielded ops a.tmps) = true := by simp [Region.wanted, hg]
  rw [if_pos hw]
  obtain ⟨v', w', hrun, r1, r2, _⟩ := run_append_own (P := P) w base t o.type e i z size bytes h1 h2 h3 h4 h5 h6 h7 v n xs hown ad m c news hn hc h1c b1 b2 b3
  unfold Oper.wp
  simp [execOp, hop, resolve, invoke, builtin, hs, hx, hrun, Result.andThen]
  exact hK v' w' r1 r2
end Go.Proofs.Ytebinaopncclgab
namespace Go.Proofs.Ytebinaopncclgab
open Go.RowKit Go.IntWalk

def rdT : List TypeId := [61, 38, 40]
def rdCells (r : Rd) (vs vr : Value) : Array Value := #[.int .i64 r.vans, .int .i64 r.load, .int .i64 r.close, .int .i64 r.nodes, .int .i64 r.home, vs, vr, .bool r.head]
def RdAt (w : World) (B rb : Nat) (r : Rd) (vs vr : Value) : Prop :=
  B ≤ rb ∧ w.heap[rb]? = some (.cells (rdCells r vs vr) 61 (0, 0)) ∧ w.ownsRow B 38 5 vs r.stops.length (ints r.stops.flatten) ∧ w.ownsRow B 40 3 vr r.roads.length (ints r.roads.flatten)
def RdLeft (w : World) (B rb : Nat) (x : Rd × Int) (e : Ending) (w' : World) : Prop :=
  ∃ vs' vr', e = .returned (.int .i64 x.2) ∧ RdAt w' B rb x.1 vs' vr' ∧ Below B w w' ∧ Keep rdT w w'

theorem rd_cells {w : World} {B rb : Nat} {r : Rd} {vs vr : Value} (h : RdAt w B rb r vs vr) :
    w.cell? ⟨rb, 0, none⟩ = some (.int .i64 r.vans) ∧ w.cell? ⟨rb, 1, none⟩ = some (.int .i64 r.load) ∧ w.cell? ⟨rb, 2, none⟩ = some (.int .i64 r.close) ∧ w.cell? ⟨rb, 3, none⟩ = some (.int .i64 r.nodes) ∧ w.cell? ⟨rb, 4, none⟩ = some (.int .i64 r.home) ∧
    w.cell? ⟨rb, 5, none⟩ = some vs ∧ w.cell? ⟨rb, 6, none⟩ = some vr ∧ w.cell? ⟨rb, 7, none⟩ = some (.bool r.head) ∧ (∀ o, w.frozen? ⟨rb, o, none⟩ = false) ∧ rb < w.heap.size := by
  have hh := h.2.1
  have hc : ∀ j, w.cell? ⟨rb, j, none⟩ = (rdCells r vs vr)[j]? := fun j => cell_of_row w rb j _ _ _ hh
  refine ⟨?_, ?_, ?_, ?_, ?_, ?_, ?_, ?_, fun o => frozen_of_row w rb o _ _ hh, (Array.getElem?_eq_some_iff.1 hh).1⟩ <;> (rw [hc]; rfl)
theorem bcell {W w1 : World} (hb : Below W.heap.size W w1) : (∀ b o, b < W.heap.size → w1.cell? ⟨b, o, none⟩ = W.cell? ⟨b, o, none⟩) ∧ (∀ b o, b < W.heap.size → w1.frozen? ⟨b, o, none⟩ = W.frozen? ⟨b, o, none⟩) :=
  ⟨fun b o h => hb.cell (p := ⟨b, o, none⟩) h, fun b o h => hb.frozen (p := ⟨b, o, none⟩) h⟩
theorem rd_same {w w' : World} {B rb : Nat} {r : Rd} {vs vr : Value} (h : RdAt w B rb r vs vr) (hb : Below w.heap.size w w') : RdAt w' B rb r vs vr :=
  ⟨h.1, by rw [hb.block rb (Array.getElem?_eq_some_iff.1 h.2.1).1]; exact h.2.1, own_below h.2.2.1 hb, own_below h.2.2.2 hb⟩
theorem rd_left_same {w w' : World} {B rb : Nat} {r : Rd} {vs vr : Value} {x : Rd × Int} {c : Int} (h : RdAt w B rb r vs vr) (hb : Below w.heap.size w w') (hx : x = (r, c)) : RdLeft w B rb x (.returned (.int .i64 c)) w' := by
  subst hx
  exact ⟨vs, vr, rfl, rd_same h hb, hb.mono (by have := h.1; have := (Array.getElem?_eq_some_iff.1 h.2.1).1; omega), Keep.of_below hb⟩

/- stores into the reader's own block -/
def Puts (B rb : Nat) (w w' : World) (cs : Array Value) : Prop := w'.heap[rb]? = some (.cells cs 61 (0, 0)) ∧ Below B w w' ∧ Keep [61] w w'
theorem Puts.refl {B rb : Nat} {w : World} {cs : Array Value} (h : w.heap[rb]? = some (.cells cs 61 (0, 0))) : Puts B rb w w cs := ⟨h, Below.refl _ _, Keep.refl _ _⟩
theorem Puts.put {B rb : Nat} {w w' : World} {cs : Array Value} (hB : B ≤ rb) (h : Puts B rb w w' cs) (o : Nat) (u : Value) : Puts B rb w (w'.setCell ⟨rb, o, none⟩ u) (cs.setIfInBounds o u) :=
  ⟨heap_setCell_same w' rb o cs _ u h.1, h.2.1.setCell hB u, h.2.2.trans (Keep.setCell h.1 (by simp) u)⟩

theorem cells8 (x0 x1 x2 x3 x4 x5 x6 x7 u0 u1 u2 u3 u4 u5 u6 u7 : Value) : ((((((((#[x0, x1, x2, x3, x4, x5, x6, x7] : Array Value).setIfInBounds 0 u0).setIfInBounds 1 u1).setIfInBounds 2 u2).setIfInBounds 3 u3).setIfInBounds 4 u4).setIfInBounds 5 u5).setIfInBounds 6 u6).setIfInBounds 7 u7 = #[u0, u1, u2, u3, u4, u5, u6, u7] := by simp
theorem rd_depot_left {w w1 : World} {B rb : Nat} {r : Rd} {vs vr : Value} {a b c d e : Int} (h : RdAt w B rb r vs vr) (hh : r.head = false) (hok : headOk a b c d e = true) (hb : Below w.heap.size w w1) :
    RdLeft w B rb (rdDepot r a b c d e) (.returned (.int .i64 0)) ((((((((w1.setCell ⟨rb, 0, none⟩ (.int .i64 a)).setCell ⟨rb, 1, none⟩ (.int .i64 b)).setCell ⟨rb, 2, none⟩ (.int .i64 c)).setCell ⟨rb, 3, none⟩ (.int .i64 d)).setCell ⟨rb, 4, none⟩ (.int .i64 e)).setCell ⟨rb, 5, none⟩ (.slice none 0 0)).setCell ⟨rb, 6, none⟩ (.slice none 0 0)).setCell ⟨rb, 7, none⟩ (.bool true)) := by
  have h1 := rd_same h hb
  have hB := h.1
  have hsz : B ≤ w.heap.size := by have := (Array.getElem?_eq_some_iff.1 h.2.1).1; omega
  have h11 := h1.2.1
  unfold rdCells at h11
  have P := ((((((((Puts.refl (B := B) h11).put hB 0 (.int .i64 a)).put hB 1 (.int .i64 b)).put hB 2 (.int .i64 c)).put hB 3 (.int .i64 d)).put hB 4 (.int .i64 e)).put hB 5 (.slice none 0 0)).put hB 6 (.slice none 0 0)).put hB 7 (.bool true)
  rw [cells8] at P
  have hx : rdDepot r a b c d e = ({ vans := a, load := b, close := c, nodes := d, home := e, stops := [], roads := [], head := true }, 0) := by simp [rdDepot, hh, hok]
  rw [hx]
  refine ⟨.slice none 0 0, .slice none 0 0, rfl, ⟨hB, P.1, World.ownsRow_nil _ _ _ _, World.ownsRow_nil _ _ _ _⟩, (hb.mono hsz).trans P.2.1, (Keep.of_below hb).trans ?_⟩
  intro k cur t z hk ht
  exact P.2.2 k cur t z hk (by simp only [rdT, List.mem_cons, not_or] at ht; simp [ht.1])

set_option maxHeartbeats 1000000 in
theorem depot_in (B rb g cap : Nat) (r : Rd) (vs vr : Value) (a b c d e : Int) (w : World) (hr : RdAt w B rb r vs vr) (hh : r.head = false) (hok : headOk a b c d e = true)
    (hg : g < w.heap.size) (h0 : w.cell? ⟨g, 0, none⟩ = some (.int .i64 a)) (h1 : w.cell? ⟨g, 1, none⟩ = some (.int .i64 b)) (h2 : w.cell? ⟨g, 2, none⟩ = some (.int .i64 c)) (h3 : w.cell? ⟨g, 3, none⟩ = some (.int .i64 d)) (h4 : w.cell? ⟨g, 4, none⟩ = some (.int .i64 e)) :
    Calls Try.prog 36 #[.pointer (some ⟨rb, 0, none⟩), .slice (some ⟨g, 0, none⟩) 5 cap] w (RdLeft w B rb (rdDepot r a b c d e)) := by
  obtain ⟨c0, c1, c2, c3, c4, c5, c6, c7, hfz, hrl⟩ := rd_cells hr
  rw [hh] at c7
  go_enter Try.func36, Try.ntmps36
  go_wp2
  go_region
  go_wp2_with fail
  refine (headFits_any _ _ _ _ _ _ _ _).mono ?_
  rintro e1 w1 ⟨rfl, hb1⟩
  rw [hok]
  obtain ⟨hcc, hff⟩ := bcell hb1
  have hz : w.heap.size < w1.heap.size := by have := hb1.size; simp at this; omega
  go_wp2
  go_ret
  exact rd_depot_left hr hh hok (((below1 w _).drew).trans (hb1.mono (by simp)))

set_option maxHeartbeats 1000000 in
theorem depot_out (B rb g cap : Nat) (r : Rd) (vs vr : Value) (a b c d e : Int) (w : World) (hr : RdAt w B rb r vs vr) (hh : r.head = false) (hok : headOk a b c d e = false)
    (hg : g < w.heap.size) (h0 : w.cell? ⟨g, 0, none⟩ = some (.int .i64 a)) (h1 : w.cell? ⟨g, 1, none⟩ = some (.int .i64 b)) (h2 : w.cell? ⟨g, 2, none⟩ = some (.int .i64 c)) (h3 : w.cell? ⟨g, 3, none⟩ = some (.int .i64 d)) (h4 : w.cell? ⟨g, 4, none⟩ = some (.int .i64 e)) :
    Calls Try.prog 36 #[.pointer (some ⟨rb, 0, none⟩), .slice (some ⟨g, 0, none⟩) 5 cap] w (RdLeft w B rb (rdDepot r a b c d e)) := by
  obtain ⟨c0, c1, c2, c3, c4, c5, c6, c7, hfz, hrl⟩ := rd_cells hr
  rw [hh] at c7
  go_enter Try.func36, Try.ntmps36
  go_wp2
  go_region
  go_wp2_with fail
  refine (headFits_any _ _ _ _ _ _ _ _).mono ?_
  rintro e1 w1 ⟨rfl, hb1⟩
  rw [hok]
  go_wp2
  go_ret
  exact rd_left_same hr (((below1 w _).drew).trans (hb1.mono (by simp))) (by simp [rdDepot, hh, hok])

set_option maxHeartbeats 1000000 in
theorem depot_bad (B rb n cap : Nat) (ao : Option Addr) (r : Rd) (vs vr : Value) (x : Rd × Int) (w : World) (hr : RdAt w B rb r vs vr) (hx : x = (r, 2)) (hbad : r.head = true ∨ n ≠ 5) :
    Calls Try.prog 36 #[.pointer (some ⟨rb, 0, none⟩), .slice ao n cap] w (RdLeft w B rb x) := by
  obtain ⟨c0, c1, c2, c3, c4, c5, c6, c7, hfz, hrl⟩ := rd_cells hr
  clear c0 c1 c2 c3 c4 c5 c6
  cases hh : r.head
  · rw [hh] at c7
    have hn : ((n : Int) != 5) = true := by
      rw [bne_iff_ne]; rcases hbad with h | h
      · rw [hh] at h; cases h
      · omega
    go_enter Try.func36, Try.ntmps36
    go_wp2
    go_ret
    exact rd_left_same hr (Below.refl _ _) hx
  · rw [hh] at c7
    go_enter Try.func36, Try.ntmps36
    go_wp2
    go_ret
    exact rd_left_same hr (Below.refl _ _) hx
end Go.Proofs.Ytebinaopncclgab
namespace Go.Proofs.Ytebinaopncclgab
open Go.RowKit Go.IntWalk
theorem Try.infoStop : (Try.prog.info? 38).map (fun i => (i.zero, i.size, i.bytes)) = some (some (.agg #[.int .i64 0, .int .i64 0, .int .i64 0, .int .i64 0, .int .i64 0]), 5, 40) := by kernel_rfl
theorem Try.infoRoad : (Try.prog.info? 40).map (fun i => (i.zero, i.size, i.bytes)) = some (some (.agg #[.int .i64 0, .int .i64 0, .int .i64 0]), 3, 24) := by kernel_rfl

theorem hide {p : Prop} (h : p) : Hid p := h
theorem box_facts {w w0 w1 : World} {cs : Array Value} {t : TypeId} (hb : Below w0.heap.size w0 w1) (hh : w0.heap = (w.alloc (.cells cs t)).heap) (ho : w0.os = w.os) (ht : w0.tape = w.tape) (hu : w0.output = w.output) :
    Below w.heap.size w w1 ∧ w.heap.size < w1.heap.size ∧ ∀ j, w1.cell? ⟨w.heap.size, j, none⟩ = cs[j]? := by
  have hs0 : w0.heap.size = w.heap.size + 1 := by rw [hh]; show (w.heap.push _).size = _; simp
  have hs1 := hb.size
  refine ⟨⟨hb.os.trans ho, hb.tape.trans ht, hb.output.trans hu, by omega, fun k hk => ?_⟩, by omega, fun j => ?_⟩
  · rw [hb.block k (by omega), hh]; exact Below.heap_alloc _ _ _ hk
  · rw [hb.cell (p := ⟨w.heap.size, j, none⟩) (show w.heap.size < w0.heap.size by omega)]
    refine cell_of_row w0 w.heap.size j cs t (0, 0) ?_
    rw [hh]; exact heap_alloc_new w _

theorem own_heap {w X : World} {v : Value} {B n size : Nat} {e : TypeId} {xs : List Value} (h : w.ownsRow B e size v n xs) (hh : X.heap = w.heap) : X.ownsRow B e size v n xs := by
  unfold World.ownsRow at *; rw [hh]; exact h
theorem own_new {w X : World} {v v' : Value} {B n size : Nat} {e : TypeId} {xs : List Value} {o : Obj} (hv : v = v') (h : w.ownsRow B e size v n xs) (hh : X.heap = (w.alloc o).heap) : X.ownsRow B e size v' n xs := by
  subst hv; exact own_heap (h.alloc o) hh
theorem news_at {w X : World} {cs : Array Value} {t : TypeId} {l : List Value} (hl : l = cs.toList) (hh : X.heap = (w.alloc (.cells cs t)).heap) : ∀ j u, l[j]? = some u → X.cell? ((⟨w.heap.size, 0, none⟩ : Addr).add j) = some u := by
  intro j u hu
  subst hl
  rw [Addr.add_lit, Nat.zero_add, cell_of_row X w.heap.size j cs t (0, 0) (by rw [hh]; exact heap_alloc_new w _)]
  simpa using hu
theorem ints5 (a b c d e : Int) : ∀ u ∈ [Value.int .i64 a, .int .i64 b, .int .i64 c, .int .i64 d, .int .i64 e], u.oneCell' = true := by
  intro u hu; simp at hu; rcases hu with rfl | rfl | rfl | rfl | rfl <;> rfl
theorem ints3 (a b c : Int) : ∀ u ∈ [Value.int .i64 a, .int .i64 b, .int .i64 c], u.oneCell' = true := by
  intro u hu; simp at hu; rcases hu with rfl | rfl | rfl <;> rfl
theorem lt_new {w X : World} {o : Obj} {B rb : Nat} (hh : X.heap = (w.alloc o).heap) (hB : B ≤ rb) (h : rb < w.heap.size) : B ≤ X.heap.size := by
  rw [hh]; show B ≤ (w.heap.push o).size; simp; omega

/- the reader behind an append onto one of its lists -/
theorem rd_after {w X w' : World} {o : Obj} {B rb n size : Nat} {r : Rd} {vs vr v : Value} {e : TypeId} {xs : List Value} (hg : X.grownBy w' v.ownBlock) (hr : RdAt w B rb r vs vr) (hh : X.heap = (w.alloc o).heap) (hv : w.ownsRow B e size v n xs) (he : e ≠ 61) : w'.heap[rb]? = some (.cells (rdCells r vs vr) 61 (0, 0)) := by
  have hX : X.heap[rb]? = some (.cells (rdCells r vs vr) 61 (0, 0)) := by
    rw [hh, Below.heap_alloc _ _ _ (Array.getElem?_eq_some_iff.1 hr.2.1).1]; exact hr.2.1
  exact Keep.grown (T := [e]) (own_heap (hv.alloc o) hh) (by simp) hg rb _ _ _ hX (by simp; exact fun h => he h.symm)
theorem rd_after_cells {w' : World} {rb : Nat} {r : Rd} {vs vr : Value} (h : w'.heap[rb]? = some (.cells (rdCells r vs vr) 61 (0, 0))) :
    w'.cell? ⟨rb, 5, none⟩ = some vs ∧ w'.cell? ⟨rb, 6, none⟩ = some vr ∧ w'.frozen? ⟨rb, 5, none⟩ = false ∧ w'.frozen? ⟨rb, 6, none⟩ = false :=
  ⟨by rw [cell_of_row w' rb 5 _ _ _ h]; rfl, by rw [cell_of_row w' rb 6 _ _ _ h]; rfl, frozen_of_row w' rb 5 _ _ h, frozen_of_row w' rb 6 _ _ h⟩
theorem keep_of {w w' : World} {e : TypeId} (h : Keep [e] w w') (he : e ∈ rdT) : Keep rdT w w' := fun k cur t z hk ht => h k cur t z hk (by intro h'; simp at h'; subst h'; exact ht he)
theorem keep_new {w X : World} {o : Obj} (hh : X.heap = (w.alloc o).heap) : Keep rdT w X := fun k cur t z hk _ => by
  rw [hh, Below.heap_alloc _ _ _ (Array.getElem?_eq_some_iff.1 hk).1]; exact hk
theorem below_new {w X : World} {o : Obj} (hh : X.heap = (w.alloc o).heap) (ho : X.os = w.os) (ht : X.tape = w.tape) (hu : X.output = w.output) : Below w.heap.size w X :=
  ⟨ho, ht, hu, by rw [hh]; show _ ≤ (w.heap.push o).size; simp, fun k hk => by rw [hh]; exact Below.heap_alloc _ _ _ hk⟩

theorem ints_append (a b : List Int) : ints (a ++ b) = ints a ++ ints b := by simp [ints]
theorem stop_eq {r : Rd} {a b c d e : Int} (hh : r.head = true) (hlen : r.stops.length < 7) (hok : stopOk a b c d e r.nodes = true) : rdStop r a b c d e = ({ r with stops := r.stops ++ [[a, b, c, d, e]] }, 0) := by
  unfold rdStop; rw [if_neg (by simp [hh]), if_neg (by omega), if_pos hok]
theorem stop_left {w w1 X w2 : World} {o : Obj} {B rb : Nat} {r : Rd} {vs vr v' : Value} {a b c d e : Int} (hg : X.grownBy w2 vs.ownBlock) (hr : RdAt w B rb r vs vr) (hw1 : Below w.heap.size w w1) (hh : X.heap = (w1.alloc o).heap) (ho : X.os = w1.os) (ht : X.tape = w1.tape) (hu : X.output = w1.output)
    (hown : w2.ownsRow B 38 5 v' (r.stops.length + 1) (ints r.stops.flatten ++ [.int .i64 a, .int .i64 b, .int .i64 c, .int .i64 d, .int .i64 e]))
    (hx : rdStop r a b c d e = ({ r with stops := r.stops ++ [[a, b, c, d, e]] }, 0)) :
    RdLeft w B rb (rdStop r a b c d e) (.returned (.int .i64 0)) (w2.setCell ⟨rb, 5, none⟩ v') := by
  have hr1 := rd_same hr hw1
  have hrb := rd_after hg hr1 hh hr1.2.2.1 (by decide)
  have hsz : B ≤ w.heap.size := by have := (Array.getElem?_eq_some_iff.1 hr.2.1).1; have := hr.1; omega
  have hX : Below w1.heap.size w1 X := below_new hh ho ht hu
  have hwX : Below w.heap.size w X := hw1.trans (hX.mono hw1.size)
  have hbX : Below B X w2 := (Below.refl _ _).grown hg (by have := hwX.size; omega) (fun k hk => (hr1.2.2.1.lt k hk).1)
  have hrd : w2.ownsRow B 40 3 vr r.roads.length (ints r.roads.flatten) :=
    (own_below hr1.2.2.2 hX).kept hg (own_ne hr1.2.2.2 hr1.2.2.1 (by decide))
  rw [hx]
  have hown' : w2.ownsRow B 38 5 v' (r.stops ++ [[a, b, c, d, e]]).length (ints (r.stops ++ [[a, b, c, d, e]]).flatten) := by
    rw [List.length_append, List.flatten_append, ints_append]; simpa [ints] using hown
  refine ⟨v', vr, rfl, ⟨hr.1, ?_, own_setCell hown' hrb (by decide) _, own_setCell hrd hrb (by decide) _⟩, ?_, ?_⟩
  · rw [heap_setCell_same w2 rb 5 _ _ _ hrb]; rfl
  · exact ((hwX.mono hsz).trans hbX).setCell hr.1 _
  · exact (((Keep.of_below hw1).trans (keep_new hh)).trans (keep_of (Keep.grown (T := [38]) (own_below hr1.2.2.1 hX) (by simp) hg) (by decide))).trans (keep_of (e := 61) (Keep.setCell hrb (by simp) _) (by decide))

end Go.Proofs.Ytebinaopncclgab
