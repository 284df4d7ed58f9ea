/- Walks of the document's answer: a node of a tree's text. -/
import Derived.Test.YtebinaopncclgabGreatDoorRSmall
import Derived.Test.YtebinaopncclgabGreatDoorTNode
namespace Go.Proofs.YtebinaopncclgabGreatDoor
open Go.RowKit Go.IntWalk

theorem splitR_count (c : UInt8) : ∀ l : List UInt8, (splitR c l).length ≤ l.length + 1
  | [] => by simp [splitR]
  | x :: t => by
    have := splitR_count c t
    rw [splitR_cons]
    split
    · simp; omega
    · cases hq : splitR c t with
      | nil => simp
      | cons p ps => rw [hq] at this; simp at *; omega
set_option maxRecDepth 100000 in
set_option maxHeartbeats 1000000 in
theorem rcount_any (k : Int) (n : Nat) (w : World) (hn : n ≤ 4000000) : Calls Tryz.prog 127 #[.int .i64 k, .int .i64 n] w fun e w' => e = .returned (.bool (cntT k n)) ∧ w' = w := by
  by_cases h1 : k = 1
  · subst h1
    go_enter Tryz.func127, Tryz.ntmps127
    go_wp2
    all_goals
      go_ret
      refine ⟨retB ?_, rfl⟩
      rw [Bool.eq_iff_iff]; simp [cntT]; try omega
  have e1 : (k == 1) = false := by simpa using h1
  by_cases h2 : k = 2
  · subst h2
    go_enter Tryz.func127, Tryz.ntmps127
    go_wp2
    all_goals
      go_ret
      refine ⟨retB ?_, rfl⟩
      rw [Bool.eq_iff_iff]; simp [cntT]; try omega
  have e2 : (k == 2) = false := by simpa using h2
  by_cases h3 : k = 3
  · subst h3
    go_enter Tryz.func127, Tryz.ntmps127
    go_wp2
    all_goals
      go_ret
      refine ⟨retB ?_, rfl⟩
      rw [Bool.eq_iff_iff]; simp [cntT]; try omega
  have e3 : (k == 3) = false := by simpa using h3
  by_cases h4 : k = 4
  · subst h4
    go_enter Tryz.func127, Tryz.ntmps127
    go_wp2
    all_goals
      go_ret
      refine ⟨retB ?_, rfl⟩
      rw [Bool.eq_iff_iff]; simp [cntT]; try omega
  have e4 : (k == 4) = false := by simpa using h4
  have hc : cntT k n = false := by unfold cntT; rw [if_neg h1, if_neg h2, if_neg h3, if_neg h4]
  go_enter Tryz.func127, Tryz.ntmps127
  go_wp2
  go_ret
  exact ⟨retB hc.symm, rfl⟩

/- the kind after so many letters were looked at -/
def kndS (p : List UInt8) (m : Nat) : Int := if p = [98] ∧ 0 < m then 1 else if p = [100] ∧ 1 < m then 2 else if p = [104] ∧ 2 < m then 3 else if p = [99] ∧ 3 < m then 4 else 0
theorem kndS_all (p : List UInt8) : kndS p 4 = kindT p := by unfold kndS kindT; simp
theorem kndS_zero (p : List UInt8) : kndS p 0 = 0 := by unfold kndS; simp
theorem kndS_miss {p : List UInt8} {m : Nat} (hm : m < 4) (hp : p ≠ [[98, 100, 104, 99].getD m 0]) : kndS p (m + 1) = kndS p m := by
  have : m = 0 ∨ m = 1 ∨ m = 2 ∨ m = 3 := by omega
  unfold kndS
  rcases this with rfl | rfl | rfl | rfl <;> simp at hp <;> simp [hp]
theorem kinds_at0 : ((⟨#[98, 100, 104, 99]⟩ : ByteArray).extract 0 1).toList = [98] := by rw [tn_list, Lib.extract_eq]; rfl
theorem kinds_at1 : ((⟨#[98, 100, 104, 99]⟩ : ByteArray).extract 1 2).toList = [100] := by rw [tn_list, Lib.extract_eq]; rfl
theorem kinds_at2 : ((⟨#[98, 100, 104, 99]⟩ : ByteArray).extract 2 3).toList = [104] := by rw [tn_list, Lib.extract_eq]; rfl
theorem kinds_at3 : ((⟨#[98, 100, 104, 99]⟩ : ByteArray).extract 3 4).toList = [99] := by rw [tn_list, Lib.extract_eq]; rfl
theorem below_rn {B : Nat} {w w' : World} (h : Below B w w') (m : Nat) : Below B w (w'.drewN m) := ⟨h.os, h.tape, h.output, h.size, h.block⟩
theorem below_dn_set {B b k m : Nat} {v : Value} {w w' : World} (h : Below B w w') (hb : B ≤ b) : Below B w ((w'.drewN m).setCell ⟨b, k, none⟩ v) := (below_rn h m).setCell hb _

theorem split_piece (c : UInt8) : ∀ (l : List UInt8), ∀ q ∈ splitR c l, q.length ≤ l.length
  | [], q, h => by simp [splitR] at h; rw [h]; simp
  | x :: t, q, h => by
    have ih := split_piece c t
    rw [splitR_cons] at h
    split at h
    · rcases List.mem_cons.1 h with rfl | h
      · simp
      · have := ih q h; simp; omega
    · cases hs : splitR c t with
      | nil => rw [hs] at h; simp at h; rw [h]; simp
      | cons p ps =>
        rw [hs] at h
        rcases List.mem_cons.1 h with rfl | h
        · have := ih p (by rw [hs]; simp); simp; omega
        · have := ih q (by rw [hs]; simp [h]); simp; omega
theorem keep_box {w X w' : World} {p n size : Nat} {e : TypeId} {o : Obj} {v : Value} {xs : List Value} (hh : X.heap = (w.alloc o).heap) (hp : p < w.heap.size) (ho : w.ownsRow (p + 1) e size v n xs) (hg : X.grownBy w' v.ownBlock) : w'.heap[p]? = w.heap[p]? := by
  have h1 : X.heap[p]? = w.heap[p]? := by rw [hh]; exact Below.heap_alloc _ _ _ hp
  have h2 : p < X.heap.size := by rw [hh]; show p < (w.heap.push o).size; simp; omega
  rw [hg.block p h2 (fun he => by have := (ho.lt p he.symm).1; omega), h1]
def NodedLeft (w : World) (x : Option NodeT) (e : Ending) (w' : World) : Prop :=
  (∃ (k : Int) (ao : Option Addr) (n c : Nat), e = .returned (.tuple #[.agg #[.int .i64 k, .slice ao n c], .bool x.isSome]) ∧ ∀ nd, x = some nd → k = nd.1 ∧ n = nd.2.length ∧ w'.ownsRow w.heap.size 3 1 (.slice ao n c) nd.2.length (ints nd.2)) ∧ Below w.heap.size w w'

set_option maxRecDepth 100000 in
set_option maxHeartbeats 4000000 in
theorem noded_any (s : ByteArray) (w : World) (hs : s.size ≤ 2000000) : Calls Tryz.prog 126 #[.string s] w (NodedLeft w (nodeT s.data.toList)) := by
  obtain ⟨i0, hi, hz0, hz1, hz2⟩ := info_parts Tryz.infoInt
  have HCS := hid (fun W => rsplit_any 32 s W hs)
  have hsl := splitR_count 32 s.data.toList
  rw [show s.data.toList.length = s.size by simp] at hsl
  have HNT : Hid (nodeT s.data.toList = match splitR 32 s.data.toList with | [] => none | p :: ps => match numsT ps with | none => none | some zs => if cntT (kindT p) zs.length = true then some (kindT p, zs) else none) := rfl
  rw [split_R] at HCS
  generalize nodeT s.data.toList = ans at *
  have HNE := hid (splitR_ne 32 s.data.toList)
  have HPC : Hid (∀ q ∈ splitR 32 s.data.toList, q.length ≤ s.size) := fun q hq => by have := split_piece 32 s.data.toList q hq; simpa using this
  generalize splitR 32 s.data.toList = L at *
  obtain ⟨p, ps, rfl⟩ : ∃ p ps, L = p :: ps := by
    cases L with
    | nil => exact absurd rfl HNE.out
    | cons p ps => exact ⟨p, ps, rfl⟩
  dsimp only at HNT
  go_enter Tryz.func126, Tryz.ntmps126
  go_wp2_with fail
  refine (HCS.out _).mono ?_
  rintro e1 w1 ⟨v1, rfl, ho1, hb1⟩
  obtain ⟨g, cap, cur, rfl, hgb, hgc, _⟩ := own_shape ho1 (by simp)
  have hgl : g < w1.heap.size := (Array.getElem?_eq_some_iff.1 hgc).1
  have hbx1 : w1.heap[w.heap.size]? = some (.cells #[.int .i64 0, .slice none 0 0] 76 (0, 0)) := (hb1.block _ (by simp)).trans (heap_alloc_new w _)
  have hrl1 : w.heap.size < w1.heap.size := (Array.getElem?_eq_some_iff.1 hbx1).1
  have HB1 : Hid (Below w.heap.size w w1) := (below1 w _).trans (hb1.mono (by simp))
  have HBX1 := hid hbx1
  have HO1 := hid ho1
  have hln : (p :: ps).length = ps.length + 1 := rfl
  rw [hln] at hsl ⊢
  clear ho1 hb1 hbx1 hgc HCS hgb
  go_wp2_with fail
  go_loopw [6] (fun i wr => ∃ m : Nat, i = .int .i64 m ∧ m ≤ 4 ∧ Hid (wr.heap[w1.heap.size]? = some (.cells #[.int .i64 (kndS p m), .slice none 0 0] 76 (0, 0))) ∧ Hid (Below w1.heap.size w1 wr)) (fun i _ => 4 - (intOf i).toNat)
  case atStart => exact ⟨0, rfl, by omega, by rw [kndS_zero]; exact heap_alloc_new w1 _, below1 w1 _⟩
  case round =>
    obtain ⟨m, rfl, hm, HBX, HBW⟩ := hrel
    have x0 : wr.cell? ⟨g, 0, none⟩ = some (.string ⟨p.toArray⟩) := (HBW.out.cell (by exact hgl)).trans (by rw [HO1.out.cellAt 0 (by simp)]; rfl)
    have c0 : wr.cell? ⟨w1.heap.size, 0, none⟩ = some (.int .i64 (kndS p m)) := cell_of_row wr _ 0 _ _ _ HBX.out
    have c1 : wr.cell? ⟨w1.heap.size, 1, none⟩ = some (.slice none 0 0) := cell_of_row wr _ 1 _ _ _ HBX.out
    have cf := fun o => frozen_of_row wr w1.heap.size o _ _ HBX.out
    have hkl : w1.heap.size < wr.heap.size := (Array.getElem?_eq_some_iff.1 HBX.out).1
    have hgw : g < wr.heap.size := Nat.lt_of_lt_of_le hgl HBW.out.size
    by_cases hlt : m < 4
    · have hcs : m = 0 ∨ m = 1 ∨ m = 2 ∨ m = 3 := by omega
      have HBX' := HBX
      clear HBX
      rcases hcs with rfl | rfl | rfl | rfl
      · by_cases hp : p = [98]
        · have HK : Hid (kndS p 1 = 1) := by show _ = _; rw [hp]; decide
          have HN : Hid (((wr.setCell ⟨w1.heap.size, 0, none⟩ (.int .i64 1))).heap[w1.heap.size]? = some (.cells #[.int .i64 (kndS p 1), .slice none 0 0] 76 (0, 0))) := by
            show _ = _
            rw [heap_setCell_same wr _ 0 _ _ _ HBX'.out, HK.out]; rfl
          have hbq : (p == ((⟨#[98, 100, 104, 99]⟩ : ByteArray).extract 0 1).toList) = true := by rw [kinds_at0, hp]; rfl
          clear HBX' hp HK
          try simp only [Int.natCast_zero]
          go_wp2_with fail
          go_quiet (fail)
          go_wp2_with fail
          go_roundw
          case rel => exact ⟨1, by go_num, by omega, HN, below_dn_set HBW.out (Nat.le_refl _)⟩
          case measure => simp [intOf]
        · have HK : Hid (kndS p 1 = kndS p 0) := kndS_miss (m := 0) (by omega) (by simpa using hp)
          have hbq : (p == ((⟨#[98, 100, 104, 99]⟩ : ByteArray).extract 0 1).toList) = false := by rw [kinds_at0]; exact beq_eq_false_iff_ne.2 hp
          clear hp
          try simp only [Int.natCast_zero]
          go_wp2_with fail
          go_quiet (fail)
          go_wp2_with fail
          go_roundw
          case rel => exact ⟨1, by go_num, by omega, by rw [HK.out]; exact HBX', below_rn HBW.out _⟩
          case measure => simp [intOf]
      · by_cases hp : p = [100]
        · have HK : Hid (kndS p 2 = 2) := by show _ = _; rw [hp]; decide
          have HN : Hid (((wr.setCell ⟨w1.heap.size, 0, none⟩ (.int .i64 2))).heap[w1.heap.size]? = some (.cells #[.int .i64 (kndS p 2), .slice none 0 0] 76 (0, 0))) := by
            show _ = _
            rw [heap_setCell_same wr _ 0 _ _ _ HBX'.out, HK.out]; rfl
          have hbq : (p == ((⟨#[98, 100, 104, 99]⟩ : ByteArray).extract 1 2).toList) = true := by rw [kinds_at1, hp]; rfl
          clear HBX' hp HK
          try simp only [Int.natCast_one]
          go_wp2_with fail
          go_quiet (fail)
          go_wp2_with fail
          go_roundw
          case rel => exact ⟨2, by go_num, by omega, HN, below_dn_set HBW.out (Nat.le_refl _)⟩
          case measure => simp [intOf]
        · have HK : Hid (kndS p 2 = kndS p 1) := kndS_miss (m := 1) (by omega) (by simpa using hp)
          have hbq : (p == ((⟨#[98, 100, 104, 99]⟩ : ByteArray).extract 1 2).toList) = false := by rw [kinds_at1]; exact beq_eq_false_iff_ne.2 hp
          clear hp
          try simp only [Int.natCast_one]
          go_wp2_with fail
          go_quiet (fail)
          go_wp2_with fail
          go_roundw
          case rel => exact ⟨2, by go_num, by omega, by rw [HK.out]; exact HBX', below_rn HBW.out _⟩
          case measure => simp [intOf]
      · by_cases hp : p = [104]
        · have HK : Hid (kndS p 3 = 3) := by show _ = _; rw [hp]; decide
          have HN : Hid (((wr.setCell ⟨w1.heap.size, 0, none⟩ (.int .i64 3))).heap[w1.heap.size]? = some (.cells #[.int .i64 (kndS p 3), .slice none 0 0] 76 (0, 0))) := by
            show _ = _
            rw [heap_setCell_same wr _ 0 _ _ _ HBX'.out, HK.out]; rfl
          have hbq : (p == ((⟨#[98, 100, 104, 99]⟩ : ByteArray).extract 2 3).toList) = true := by rw [kinds_at2, hp]; rfl
          clear HBX' hp HK
          try simp only [Int.cast_ofNat_Int]
          go_wp2_with fail
          go_quiet (fail)
          go_wp2_with fail
          go_roundw
          case rel => exact ⟨3, by go_num, by omega, HN, below_dn_set HBW.out (Nat.le_refl _)⟩
          case measure => simp [intOf]
        · have HK : Hid (kndS p 3 = kndS p 2) := kndS_miss (m := 2) (by omega) (by simpa using hp)
          have hbq : (p == ((⟨#[98, 100, 104, 99]⟩ : ByteArray).extract 2 3).toList) = false := by rw [kinds_at2]; exact beq_eq_false_iff_ne.2 hp
          clear hp
          try simp only [Int.cast_ofNat_Int]
          go_wp2_with fail
          go_quiet (fail)
          go_wp2_with fail
          go_roundw
          case rel => exact ⟨3, by go_num, by omega, by rw [HK.out]; exact HBX', below_rn HBW.out _⟩
          case measure => simp [intOf]
      · by_cases hp : p = [99]
        · have HK : Hid (kndS p 4 = 4) := by show _ = _; rw [hp]; decide
          have HN : Hid (((wr.setCell ⟨w1.heap.size, 0, none⟩ (.int .i64 4))).heap[w1.heap.size]? = some (.cells #[.int .i64 (kndS p 4), .slice none 0 0] 76 (0, 0))) := by
            show _ = _
            rw [heap_setCell_same wr _ 0 _ _ _ HBX'.out, HK.out]; rfl
          have hbq : (p == ((⟨#[98, 100, 104, 99]⟩ : ByteArray).extract 3 4).toList) = true := by rw [kinds_at3, hp]; rfl
          clear HBX' hp HK
          try simp only [Int.cast_ofNat_Int]
          go_wp2_with fail
          go_quiet (fail)
          go_wp2_with fail
          go_roundw
          case rel => exact ⟨4, by go_num, by omega, HN, below_dn_set HBW.out (Nat.le_refl _)⟩
          case measure => simp [intOf]
        · have HK : Hid (kndS p 4 = kndS p 3) := kndS_miss (m := 3) (by omega) (by simpa using hp)
          have hbq : (p == ((⟨#[98, 100, 104, 99]⟩ : ByteArray).extract 3 4).toList) = false := by rw [kinds_at3]; exact beq_eq_false_iff_ne.2 hp
          clear hp
          try simp only [Int.cast_ofNat_Int]
          go_wp2_with fail
          go_quiet (fail)
          go_wp2_with fail
          go_roundw
          case rel => exact ⟨4, by go_num, by omega, by rw [HK.out]; exact HBX', below_rn HBW.out _⟩
          case measure => simp [intOf]
    · obtain rfl : m = 4 := by omega
      rw [kndS_all] at c0 HBX
      go_wp2_with fail
      clear x0 c0 c1 cf hlt hm
      go_loopw [7] (fun i wq => ∃ (m : Nat) (zs : List Int) (v : Value), i = .int .i64 ((m + 1 : Nat) : Int) ∧ m ≤ ps.length ∧ Hid (numsT (ps.take m) = some zs) ∧ Hid (wq.heap[w1.heap.size]? = some (.cells #[.int .i64 (kindT p), v] 76 (0, 0))) ∧ Hid (wq.ownsRow (w1.heap.size + 1) 3 1 v zs.length (ints zs)) ∧ Hid (Below w1.heap.size w1 wq)) (fun i _ => ps.length + 1 - (intOf i).toNat)
      case atStart => exact ⟨0, [], .slice none 0 0, rfl, by omega, rfl, HBX, World.ownsRow_nil _ _ _ _, HBW⟩
      case round =>
        obtain ⟨m, zs, v, rfl, hm, HZ, HBX2, HO2, HBW2⟩ := hrel
        have hzb : zs.length ≤ 2000001 := by have := (numsT_some HZ.out).1; simp at this; omega
        obtain ⟨av, cv, rfl, _, _⟩ := own_val HO2.out
        have c0 : wr.cell? ⟨w1.heap.size, 0, none⟩ = some (.int .i64 (kindT p)) := cell_of_row wr _ 0 _ _ _ HBX2.out
        have c1 : wr.cell? ⟨w1.heap.size, 1, none⟩ = some (.slice av zs.length cv) := cell_of_row wr _ 1 _ _ _ HBX2.out
        have hkl2 : w1.heap.size < wr.heap.size := (Array.getElem?_eq_some_iff.1 HBX2.out).1
        have hgw2 : g < wr.heap.size := Nat.lt_of_lt_of_le hgl HBW2.out.size
        by_cases hlt : m < ps.length
        · have x0 : wr.cell? ⟨g, m + 1, none⟩ = some (.string ⟨ps[m].toArray⟩) := (HBW2.out.cell (by exact hgl)).trans (by rw [HO1.out.cellAt (m + 1) (by simp; omega)]; simp [strs, hlt])
          have hxs : ps[m].length ≤ s.size := by
            have := HPC.out ps[m] (List.mem_cons_of_mem _ (List.getElem_mem hlt)); omega
          have HSN : Hid (numsT (ps.take (m + 1)) = match numT ps[m] with | none => none | some z => some (zs ++ [z])) := by
            show _ = _
            rw [List.take_succ_eq_append_getElem hlt, numsT_snoc, HZ.out]
            cases numT ps[m] <;> rfl
          have HSX : Hid (numT ps[m] = none → numsT ps = none) := numsT_no (List.getElem_mem hlt)
          have HCS : Hid (∀ W, Below wr.heap.size wr W → Calls Tryz.prog 188 #[.string ⟨ps[m].toArray⟩] W (SmallLeft W ps[m])) := fun W _ => by
            have h := small_any ⟨ps[m].toArray⟩ W (by show ps[m].toArray.size ≤ _; simp; omega)
            simpa using h
          generalize ps[m] = x at *
          clear hxs HZ
          cases hx : numT x with
          | none =>
            have HNO : Hid (ans = none) := by show _ = _; rw [HNT.out, HSX.out hx]
            clear HSN HSX HNT
            go_wp2_with fail
            refine (HCS.out wr (Below.refl _ _)).mono ?_
            rintro e2 w2 ⟨⟨z, he, _⟩, hb2⟩
            have he : e2 = .returned (.tuple #[.int .i64 z, .bool false]) := by rw [he, hx]; rfl
            subst he
            have d0 := (hb2.cell (p := ⟨w1.heap.size, 0, none⟩) (by exact hkl2)).trans c0
            have d1 := (hb2.cell (p := ⟨w1.heap.size, 1, none⟩) (by exact hkl2)).trans c1
            have HBL2 : Hid (Below w1.heap.size w1 w2) := HBW2.out.trans (hb2.mono HBW2.out.size)
            have hbx : w2.heap[w.heap.size]? = _ := (HBL2.out.block _ hrl1).trans HBX1.out
            have m0 : w2.cell? ⟨w.heap.size, 0, none⟩ = some (.int .i64 0) := cell_of_row w2 w.heap.size 0 _ _ _ hbx
            have m1 : w2.cell? ⟨w.heap.size, 1, none⟩ = some (.slice none 0 0) := cell_of_row w2 w.heap.size 1 _ _ _ hbx
            have mf := fun o => frozen_of_row w2 w.heap.size o _ _ hbx
            have hbl : w.heap.size < w2.heap.size := (Array.getElem?_eq_some_iff.1 hbx).1
            have HBB : Hid (Below w.heap.size w w2) := HB1.out.trans (HBL2.out.mono HB1.out.size)
            clear c0 c1 hb2 HCS hx hbx
            go_wp2_with fail
            refine bodyPost_ret (v := .tuple #[.agg #[.int .i64 (kindT p), .slice av zs.length cv], .bool false]) (by simp [results, Tryz.results126, go_sem, m0, m1]) rfl ?_
            exact ⟨⟨_, _, _, _, by rw [HNO.out]; rfl, fun nd h => (by rw [HNO.out] at h; cases h)⟩, (HBB.out.setCell (Nat.le_refl _) _).setCell (Nat.le_refl _) _⟩
          | some z =>
            have HZ2 : Hid (numsT (ps.take (m + 1)) = some (zs ++ [z])) := by show _ = _; rw [HSN.out, hx]
            clear HSN HSX
            go_wp2_with fail
            refine (HCS.out wr (Below.refl _ _)).mono ?_
            rintro e2 w2 ⟨⟨z', he, hz'⟩, hb2⟩
            obtain rfl := hz' z hx
            have he : e2 = .returned (.tuple #[.int .i64 z', .bool true]) := by rw [he, hx]; rfl
            subst he
            have d1 := (hb2.cell (p := ⟨w1.heap.size, 1, none⟩) (by exact hkl2)).trans c1
            have HBL2 : Hid (Below w1.heap.size w1 w2) := HBW2.out.trans (hb2.mono HBW2.out.size)
            have HBX3 : Hid (w2.heap[w1.heap.size]? = _) := (hb2.block _ hkl2).trans HBX2.out
            have df := fun o => frozen_of_row w2 w1.heap.size o _ _ HBX3.out
            have hk2 : w1.heap.size < w2.heap.size := Nat.lt_of_lt_of_le hkl2 hb2.size
            have HO3 := hid (own_below HO2.out hb2)
            have hp5 : w1.heap.size + 1 ≤ w2.heap.size := hk2
            clear c0 c1 hb2 HCS hx HBX2 HBW2 HO2
            go_wp2_with (at_builtin; refine wpList_append_own _ rfl _ _ 40 rfl (w1.heap.size + 1) 3 i0 (.int .i64 0) 1 8 Tryz.underlying40 hi hz0 hz1 hz2 rfl (by decide) _ _ _ rfl (HO3.out.alloc _) ⟨w2.heap.size, 0, none⟩ 1 1 [.int .i64 z'] rfl rfl ?c1 ?c2 ?c3 ?c4 ?c5 ?_)
            case c1 => exact cell_one_new _ _ _
            case c2 => intro u hu; simp at hu; subst hu; rfl
            case c3 => unfold maxLen; omega
            case c4 => omega
            case c5 => simp; omega
            · intro v5 w5 hown5 hgr5 _
              have HO5 := hid hown5
              have HP5 : Hid (w5.heap[w1.heap.size]? = w2.heap[w1.heap.size]?) := keep_box (w := w2) (by exact rfl) hk2 HO3.out hgr5
              have HG5 : Hid (Below w1.heap.size w1 w5) := (HBL2.out.trans ((below1 w2 _).mono HBL2.out.size)).grown hgr5 (by simp; omega) (fun q hq => by have := (HO3.out.lt q hq).1; omega)
              obtain ⟨g5, cap5, cur5, hv5, _, _, _⟩ := own_shape hown5 (by omega)
              clear hown5 hgr5
              subst hv5
              have c5 : w5.cell? ⟨w1.heap.size, 1, none⟩ = some (.slice av zs.length cv) := cell_of_row w5 _ 1 _ _ _ (HP5.out.trans HBX3.out)
              have f5 : w5.frozen? ⟨w1.heap.size, 1, none⟩ = false := frozen_of_row w5 w1.heap.size 1 _ _ (HP5.out.trans HBX3.out)
              go_wp2
              go_roundw
              case rel =>
                (repeat apply Exists.intro)
                refine And.intro ?_ rfl
                refine ⟨m + 1, zs ++ [z'], .slice (some ⟨g5, 0, none⟩) (zs.length + 1) cap5, by go_num, by omega, HZ2, ?_, ?_, HG5.out.setCell (Nat.le_refl _) _⟩
                · show _ = _
                  rw [heap_setCell_same w5 _ 1 _ _ _ (HP5.out.trans HBX3.out)]; rfl
                · show World.ownsRow _ _ _ _ _ _ _
                  rw [List.length_append, show ints (zs ++ [z']) = ints zs ++ [.int .i64 z'] from by simp [ints]]
                  exact ownsRow_setCell_other HO5.out (by intro h; have h1 : w1.heap.size + 1 ≤ w1.heap.size := (HO5.out.lt w1.heap.size h).1; omega) _
              case measure => simp [intOf]; omega
        · obtain rfl : m = ps.length := by omega
          rw [List.take_length] at HZ
          have HA : Hid (ans = if cntT (kindT p) zs.length = true then some (kindT p, zs) else none) := by show _ = _; rw [HNT.out, HZ.out]
          have HCT := hid (fun W => rcount_any (kindT p) zs.length W (by omega))
          have hbx : wr.heap[w.heap.size]? = _ := (HBW2.out.block _ hrl1).trans HBX1.out
          have m0 : wr.cell? ⟨w.heap.size, 0, none⟩ = some (.int .i64 0) := cell_of_row wr w.heap.size 0 _ _ _ hbx
          have m1 : wr.cell? ⟨w.heap.size, 1, none⟩ = some (.slice none 0 0) := cell_of_row wr w.heap.size 1 _ _ _ hbx
          have mf := fun o => frozen_of_row wr w.heap.size o _ _ hbx
          have hbl : w.heap.size < wr.heap.size := (Array.getElem?_eq_some_iff.1 hbx).1
          have HBB : Hid (Below w.heap.size w wr) := HB1.out.trans (HBW2.out.mono HB1.out.size)
          have HBX4 := hid hbx
          generalize hcb : cntT (kindT p) zs.length = cb at *
          clear HNT HZ hbx hcb
          go_wp2_with fail
          refine (HCT.out _).mono ?_
          rintro e3 w3 ⟨rfl, rfl⟩
          go_wp2_with fail
          refine bodyPost_ret (v := .tuple #[.agg #[.int .i64 (kindT p), .slice av zs.length cv], .bool cb]) (by simp [results, Tryz.results126, go_sem, m0, m1]) rfl ?_
          refine ⟨⟨_, _, _, _, by rw [HA.out]; cases cb <;> rfl, fun nd h => ?_⟩, (HBB.out.setCell (Nat.le_refl _) _).setCell (Nat.le_refl _) _⟩
          rw [HA.out] at h
          cases cb
          · cases h
          · cases h
            exact ⟨rfl, rfl, own_put2 HBX4.out (own_base HO2.out (by omega)) (by decide)⟩
end Go.Proofs.YtebinaopncclgabGreatDoor
