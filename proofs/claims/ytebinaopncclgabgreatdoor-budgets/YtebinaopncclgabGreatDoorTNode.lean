/- Walks: the numbers of a node, a node. -/
import Derived.Test.YtebinaopncclgabGreatDoorTNum
import Derived.Test.YtebinaopncclgabGreatDoorOnZ
namespace Go.Proofs.YtebinaopncclgabGreatDoor
open Go.RowKit Go.IntWalk

/- the numbers behind the letter -/
def nG : List UInt8 → Option (List Int)
  | [] => some []
  | c :: t => if c = 32 then numsT (splitR 32 t) else none
theorem nG_cons (c : UInt8) (t : List UInt8) : nG (c :: t) = if c = 32 then numsT (splitR 32 t) else none := rfl
def consO (z : Option Int) (zs : Option (List Int)) : Option (List Int) := match z with | none => none | some z => zs.map (z :: ·)
theorem tw_take (p : UInt8 → Bool) (t : List UInt8) : t.takeWhile p = t.take (t.takeWhile p).length ∧ t.dropWhile p = t.drop (t.takeWhile p).length := by
  have h := List.takeWhile_append_dropWhile (p := p) (l := t)
  refine ⟨?_, ?_⟩
  · conv => rhs; rw [← h]
    rw [List.take_left' (by rw [h])]
  · conv => rhs; rw [← h]
    rw [List.drop_left' (by rw [h])]
theorem nG_step (t : List UInt8) : nG (32 :: t) = consO (numT (t.takeWhile (· != 32))) (nG (t.dropWhile (· != 32))) := by
  have h := List.takeWhile_append_dropWhile (p := (· != (32 : UInt8))) (l := t)
  have hno : (32 : UInt8) ∉ t.takeWhile (· != 32) := fun hm => by have := List.all_eq_true.1 (List.all_takeWhile (p := (· != (32 : UInt8))) (l := t)) _ hm; simp at this
  show (if (32 : UInt8) = 32 then numsT (splitR 32 t) else none) = _
  rw [if_pos rfl]
  conv => lhs; rw [← h]
  cases hd : t.dropWhile (· != 32) with
  | nil =>
    rw [List.append_nil, splitR_none hno, numsT_cons]
    unfold consO
    cases numT (t.takeWhile (· != 32)) <;> rfl
  | cons c b =>
    have hc : c = 32 := by
      have h2 := List.head?_dropWhile_not (fun x : UInt8 => x != 32) t
      rw [hd] at h2
      simpa using h2
    subst hc
    rw [splitR_at hno, numsT_cons]
    show _ = consO _ (if (32 : UInt8) = 32 then numsT (splitR 32 b) else none)
    rw [if_pos rfl]
    unfold consO
    cases numT (t.takeWhile (· != 32)) with
    | none => rfl
    | some z => cases numsT (splitR 32 b) <;> rfl
theorem numsT_some1 {ps : List (List UInt8)} {zs : List Int} (h : numsT ps = some zs) (hp : ps ≠ []) : 1 ≤ zs.length := by
  have := (numsT_some h).1
  cases ps with
  | nil => exact absurd rfl hp
  | cons p ps => simp at this; omega
theorem nG_one {l : List UInt8} {zs : List Int} (h : nG l = some zs) (hl : l ≠ []) : 1 ≤ zs.length := by
  cases l with
  | nil => exact absurd rfl hl
  | cons c t =>
    rw [nG_cons] at h
    split at h
    · exact numsT_some1 h (splitR_ne _ _)
    · cases h
/- a node, by the numbers behind its letter -/
theorem node_nG (c : UInt8) (t : List UInt8) : nodeT (c :: t) = match nG t with | none => none | some zs => if cntT (kdB c) zs.length = true then some (kdB c, zs) else none := by
  have kd : ∀ p : List UInt8, p ≠ [] → kindT (c :: p) = 0 := fun p hp => by
    unfold kindT; simp [hp]
  have k1 : ∀ n, cntT (kindT [c]) n = cntT (kdB c) n ∧ (cntT (kdB c) n = true → kindT [c] = kdB c) := fun n => by
    unfold kindT kdB
    by_cases h1 : c = 98
    · simp [h1]
    by_cases h2 : c = 100
    · simp [h2]
    by_cases h3 : c = 104
    · simp [h3]
    by_cases h4 : c = 99
    · simp [h4]
    simp [h1, h2, h3, h4, cntT]
  have c0 : ∀ n, cntT 0 n = false := fun n => by simp [cntT]
  unfold nodeT
  rw [splitR_cons]
  by_cases h32 : c = 32
  · rw [if_pos h32]
    have hk : ∀ n, cntT (kdB c) n = false := fun n => by rw [h32]; simp [kdB, cntT]
    dsimp only
    have : kindT [] = 0 := rfl
    rw [this]
    cases numsT (splitR 32 t) <;> cases nG t <;> simp [c0, hk]
  · rw [if_neg h32]
    cases t with
    | nil =>
      show (match numsT [] with | none => none | some zs => if cntT (kindT [c]) zs.length = true then some (kindT [c], zs) else none) = _
      show (if cntT (kindT [c]) 0 = true then some (kindT [c], []) else none) = if cntT (kdB c) 0 = true then some (kdB c, []) else none
      rw [(k1 0).1]
      split
      · rename_i h; rw [(k1 0).2 h]
      · rfl
    | cons d t =>
      rw [splitR_cons, nG_cons]
      by_cases hd : d = 32
      · rw [if_pos hd, if_pos hd]
        dsimp only
        cases numsT (splitR 32 t) with
        | none => rfl
        | some zs =>
          dsimp only
          rw [(k1 _).1]
          split
          · rename_i h; rw [(k1 _).2 h]
          · rfl
      · rw [if_neg hd, if_neg hd]
        cases splitR 32 t with
        | nil =>
          dsimp only
          rw [kd [d] (by simp)]
          cases numsT [] <;> simp [c0]
        | cons p ps =>
          dsimp only
          rw [kd (d :: p) (by simp)]
          cases numsT ps <;> simp [c0]
end Go.Proofs.YtebinaopncclgabGreatDoor
namespace Go.Proofs.YtebinaopncclgabGreatDoor
open Go.RowKit Go.IntWalk

def numsS (l : List UInt8) : Option (List Int) := match nG l with | none => none | some zs => if zs.length ≤ 20 then some zs else none
def NumsLeft (w : World) (x : Option (List Int)) (e : Ending) (w' : World) : Prop :=
  (x = none → e = .returned (.tuple #[.slice none 0 0, .bool false])) ∧ (∀ zs, x = some zs → ∃ v, e = .returned (.tuple #[v, .bool true]) ∧ w'.ownsRow w.heap.size 3 1 v zs.length (ints zs)) ∧ Below w.heap.size w w'
theorem nums_no {l l' : List UInt8} {zs : List Int} (h : nG l = (nG l').map (zs ++ ·)) (hn : nG l' = none) : numsS l = none := by unfold numsS; rw [h, hn]; rfl
theorem nums_many {l l' : List UInt8} {zs : List Int} (h : nG l = (nG l').map (zs ++ ·)) (hn : l' ≠ []) (hz : 20 ≤ zs.length) : numsS l = none := by
  unfold numsS; rw [h]
  cases hq : nG l' with
  | none => rfl
  | some ys =>
    have := nG_one hq hn
    show (if (zs ++ ys).length ≤ 20 then some (zs ++ ys) else none) = none
    rw [if_neg (by simp; omega)]
theorem nums_next {l t : List UInt8} {zs : List Int} {z : Int} (h : nG l = (nG (32 :: t)).map (zs ++ ·)) (hz : numT (t.takeWhile (· != 32)) = some z) : nG l = (nG (t.dropWhile (· != 32))).map ((zs ++ [z]) ++ ·) := by
  rw [h, nG_step, hz]
  unfold consO
  dsimp only
  cases nG (t.dropWhile (· != 32)) <;> simp
theorem numT_bound {l : List UInt8} {z : Int} (h : numT l = some z) : -100000000 ≤ z ∧ z ≤ 100000000 := (numT_some h).2

set_option maxRecDepth 100000 in
set_option maxHeartbeats 4000000 in
theorem numbersOf_any (s : ByteArray) (w : World) (hs : s.size ≤ maxLen) :
    Calls Tryz.prog 212 #[.string s] w (NumsLeft w (numsS s.data.toList)) := by
  unfold maxLen at hs
  obtain ⟨i0, hi, hz0, hz1, hz2⟩ := info_parts Tryz.infoInt
  have hl : s.data.toList.length = s.size := by simp
  have HL := hid hl
  have HFD : Hid (∀ (k : Nat) (W : World), k ≤ s.size → Calls Tryz.prog 186 #[.string s, .int .i64 k, .int .u8 32] W fun e w' => e = .returned (.int .i64 (fdN s.data.toList k 32)) ∧ w' = W) := fun k W hk => find_any s k 32 W (by unfold maxLen; omega) hk
  have HNU : Hid (∀ (t : ByteArray) (W : World), t.size ≤ s.size → Calls Tryz.prog 225 #[.string t] W fun e w' => e = .returned (.tuple #[.int .i64 (numP t.data.toList).1, .bool (numP t.data.toList).2]) ∧ w' = W) := fun t W ht => tnumber_any t W (by unfold maxLen; omega)
  clear hl
  go_enter Tryz.func212, Tryz.ntmps212
  go_wp2
  go_loopw [4, 5] (fun lv i wr => ∃ (k : Nat) (zs : List Int), i = .int .i64 k ∧ k ≤ s.size ∧ zs.length ≤ 20 ∧ Hid (nG s.data.toList = (nG (s.data.toList.drop k)).map (zs ++ ·)) ∧ Hid (wr.ownsRow w.heap.size 3 1 lv zs.length (ints zs)) ∧ Hid (Below w.heap.size w wr)) (fun _ i _ => s.size - (intOf i).toNat)
  case atStart => exact ⟨0, [], rfl, by omega, by simp, by show _ = _; simp, World.ownsRow_nil _ _ _ _, Below.refl _ _⟩
  case round =>
    obtain ⟨k, zs, rfl, hk, hzl, HN, HR, HB⟩ := hrel
    obtain ⟨ao, c, rfl, _, _⟩ := own_val HR.out
    by_cases hlt : k < s.size
    · have hdr : s.data.toList.drop k = s[k] :: s.data.toList.drop (k + 1) := List.drop_eq_getElem_cons (by rw [HL.out]; exact hlt)
      have HDR := hid hdr
      by_cases hc : s[k] = 32
      · have he : ((s[k].toNat : Int) != 32) = false := by rw [hc]; rfl
        by_cases h20 : zs.length = 20
        · have hno : numsS s.data.toList = none := nums_many HN.out (by rw [hdr]; simp) (by omega)
          have HNO := hid hno
          clear hno hdr
          go_wp2_with fail
          go_ret2
          exact ⟨fun _ => rfl, fun zs h => (by rw [HNO.out] at h; cases h), HB.out⟩
        · have h20' : ((zs.length : Int) == 20) = false := by rw [beq_eq_false_iff_ne]; omega
          have hfl := fn_le s.data.toList (k + 1) 32
          rw [HL.out] at hfl
          have htw := tw_take (· != 32) (s.data.toList.drop (k + 1))
          have HW : Hid ((s.extract (k + 1) (fdN s.data.toList (k + 1) 32)).data.toList = (s.data.toList.drop (k + 1)).takeWhile (· != 32)) := by
            show _ = _
            rw [Lib.extract_eq]
            show (((s.data.toList.drop (k + 1)).take (fdN s.data.toList (k + 1) 32 - (k + 1))).toArray).toList = _
            rw [List.toList_toArray, htw.1]
            unfold fdN
            rw [Nat.add_sub_cancel_left]
          have HD : Hid (s.data.toList.drop (fdN s.data.toList (k + 1) 32) = (s.data.toList.drop (k + 1)).dropWhile (· != 32)) := by
            show _ = _
            rw [htw.2, List.drop_drop]; rfl
          have HF := hid (HFD.out (k + 1) wr (by omega))
          obtain ⟨e, hE⟩ : ∃ e, fdN s.data.toList (k + 1) 32 = e := ⟨_, rfl⟩
          rw [hE] at hfl HW HD HF
          have hX : nG s.data.toList = (nG (32 :: s.data.toList.drop (k + 1))).map (zs ++ ·) := by rw [← hc, ← HDR.out]; exact HN.out
          have HX := hid hX
          have h1 : k + 1 ≤ e := hfl.1
          have h2 : e ≤ s.size := hfl.2 (by omega)
          clear hdr hX htw hfl hE
          go_wp2_with fail
          rw [show ((k : Int) + 1) = ((k + 1 : Nat) : Int) by omega]
          refine HF.out.mono ?_
          rintro e1 w1 ⟨rfl, rfl⟩
          have HNB := hid (HNU.out (s.extract (k + 1) e) w1 (by simp; omega))
          rw [HW.out] at HNB
          clear HF
          cases hn : numT ((s.data.toList.drop (k + 1)).takeWhile (· != 32)) with
          | none =>
            have hp : numP ((s.data.toList.drop (k + 1)).takeWhile (· != 32)) = (0, false) := by unfold numP; rw [hn]
            rw [hp] at HNB
            have HNO : Hid (numsS s.data.toList = none) := nums_no HX.out (by rw [nG_step, hn]; rfl)
            clear hn hp
            go_wp2_with fail
            refine HNB.out.mono ?_
            rintro e2 w2 ⟨rfl, rfl⟩
            go_wp2_with fail
            go_ret2
            exact ⟨fun _ => rfl, fun zs h => (by rw [HNO.out] at h; cases h), HB.out⟩
          | some z =>
            have hp : numP ((s.data.toList.drop (k + 1)).takeWhile (· != 32)) = (z, true) := by unfold numP; rw [hn]
            rw [hp] at HNB
            have hzb := numT_bound hn
            have HNX : Hid (nG s.data.toList = (nG (s.data.toList.drop e)).map ((zs ++ [z]) ++ ·)) := by rw [HD.out]; exact nums_next HX.out hn
            have hsz := HB.out.size
            clear hn hp
            go_wp2_with fail
            refine HNB.out.mono ?_
            rintro e2 w2 ⟨rfl, rfl⟩
            go_wp2_with (at_builtin; refine wpList_append_own _ rfl _ _ 40 rfl w.heap.size 3 i0 (.int .i64 0) 1 8 Tryz.underlying40 hi hz0 hz1 hz2 rfl (by decide) _ _ _ rfl (HR.out.alloc _) ⟨w2.heap.size, 0, none⟩ 1 1 [.int .i64 z] rfl rfl ?c1 ?c2 ?c3 ?c4 ?c5 ?_)
            case c1 => exact cell_one_new _ _ _
            case c2 => intro u hu; simp at hu; subst hu; rfl
            case c3 => unfold maxLen; omega
            case c4 => omega
            case c5 => simp; omega
            intro v1 w1 hown1 hgr1 _
            have hgg1 : (w2.alloc (.cells #[.int .i64 z] 3)).grownBy w1 (Value.slice ao zs.length c).ownBlock := hgr1
            have R := own_int (w := w) hsz HR.out HB.out hown1 hgg1
            have HR1 := hid R.1
            have HB1 := hid R.2
            clear hown1 hgr1 hgg1 HR HB R
            go_wp2
            go_roundw
            case rel => exact ⟨e, zs ++ [z], rfl, h2, by simp; omega, HNX, HR1, HB1⟩
            case measure => simp [intOf]; omega
      · have he : ((s[k].toNat : Int) != 32) = true := by
          rw [bne_iff_ne]; intro h; exact hc (UInt8.toNat_inj.1 (by have : (32 : UInt8).toNat = 32 := rfl; omega))
        have hno : numsS s.data.toList = none := nums_no HN.out (by rw [hdr, nG_cons, if_neg hc])
        have HNO := hid hno
        clear hno hdr
        go_wp2_with fail
        go_ret2
        exact ⟨fun _ => rfl, fun zs h => (by rw [HNO.out] at h; cases h), HB.out⟩
    · have HF : Hid (numsS s.data.toList = some zs) := by
        show _ = _
        unfold numsS
        rw [HN.out, List.drop_of_length_le (by rw [HL.out]; omega)]
        show (if (zs ++ []).length ≤ 20 then some (zs ++ []) else none) = _
        rw [List.append_nil, if_pos hzl]
      go_wp2_with fail
      go_ret2
      exact ⟨fun h => (by rw [HF.out] at h; cases h), fun ys h => (by rw [HF.out] at h; cases h; exact ⟨_, rfl, HR.out⟩), HB.out⟩

/- a node in memory: its kind, its numbers -/
def NodeLeft (w : World) (x : Option NodeT) (e : Ending) (w' : World) : Prop :=
  (x = none → e = .returned (.tuple #[.agg #[.int .i64 0, .slice none 0 0], .bool false])) ∧ (∀ nd, x = some nd → ∃ v, e = .returned (.tuple #[.agg #[.int .i64 nd.1, v], .bool true]) ∧ w'.ownsRow w.heap.size 3 1 v nd.2.length (ints nd.2)) ∧ Below w.heap.size w w'
theorem node_nums (c : UInt8) (t : List UInt8) : nodeT (c :: t) = match numsS t with | none => none | some zs => if cntT (kdB c) zs.length = true then some (kdB c, zs) else none := by
  rw [node_nG]
  unfold numsS
  cases nG t with
  | none => rfl
  | some zs =>
    dsimp only
    by_cases h : zs.length ≤ 20
    · rw [if_pos h]
    · rw [if_neg h, if_neg]
      intro hc
      have := cntT_kind hc
      omega
theorem own_put2 {w : World} {b : Nat} {cs : Array Value} {t : TypeId} (hb : w.heap[b]? = some (.cells cs t (0, 0))) {B n size : Nat} {e : TypeId} {v : Value} {xs : List Value} (h : w.ownsRow B e size v n xs) (he : e ≠ t) {u0 u1 : Value} :
    ((w.setCell ⟨b, 0, none⟩ u0).setCell ⟨b, 1, none⟩ u1).ownsRow B e size v n xs := by
  have h1 := own_setCell (o := 0) h hb he u0
  exact own_setCell h1 (heap_setCell_same w b 0 _ _ _ hb) he u1
theorem numsS_len {l : List UInt8} {zs : List Int} (h : numsS l = some zs) : zs.length ≤ 20 := by
  unfold numsS at h
  split at h
  · cases h
  · split at h
    · cases h; assumption
    · cases h

set_option maxRecDepth 100000 in
set_option maxHeartbeats 4000000 in
theorem nodeOf_any (s : ByteArray) (w : World) (hs : s.size ≤ maxLen) :
    Calls Tryz.prog 187 #[.string s] w (NodeLeft w (nodeT s.data.toList)) := by
  unfold maxLen at hs
  by_cases h0 : s.size = 0
  · have v0 := tn_none h0
    have hn : s.data.toList = [] := List.eq_nil_of_length_eq_zero (by simpa using h0)
    have HN : Hid (nodeT s.data.toList = none) := by show _ = _; rw [hn]; rfl
    go_enter Tryz.func187, Tryz.ntmps187
    go_wp2
    refine bodyPost_ret (v := .tuple #[.agg #[.int .i64 0, .slice none 0 0], .bool false]) (by simp [results, Tryz.results187, go_sem]) rfl ?_
    exact ⟨fun _ => rfl, fun nd h => (by rw [HN.out] at h; cases h), below1 _ _⟩
  · have h1 : 0 < s.size := by omega
    have v0 := tn_some (s := s) (by omega)
    have hz : (s.extract 1 s.size).size = s.size - 1 := by simp
    have hsl : s.data.toList = s[0] :: (s.extract 1 s.size).data.toList := by
      rw [Lib.extract_eq]
      show _ = _ :: ((s.data.toList.drop 1).take (s.size - 1)).toArray.toList
      have hl : s.data.toList.length = s.size := by simp
      rw [List.take_of_length_le (by simp), List.toList_toArray]
      have h2 := List.drop_eq_getElem_cons (l := s.data.toList) (i := 0) (by omega)
      rw [List.drop_zero] at h2
      exact h2
    have HSL := hid hsl
    have HK := hid (fun W => kindOf_any s[0] W)
    have HNB := hid (fun W => numbersOf_any (s.extract 1 s.size) W (by unfold maxLen; omega))
    clear hsl
    cases hn : numsS (s.extract 1 s.size).data.toList with
    | none =>
      have HNO : Hid (nodeT s.data.toList = none) := by show _ = _; rw [HSL.out, node_nums, hn]
      rw [hn] at HNB
      clear hn
      go_enter Tryz.func187, Tryz.ntmps187
      go_wp2_with fail
      refine (HK.out _).mono ?_
      rintro e1 w1 ⟨rfl, rfl⟩
      go_wp2_with fail
      refine (HNB.out _).mono ?_
      rintro e2 w2 ⟨q1, _, hb2⟩
      have q1 := q1 rfl
      subst q1
      have HB2 : Hid (Below w.heap.size w w2) := (below1 w _).trans (hb2.mono (by simp))
      have hbx : w2.heap[w.heap.size]? = _ := (hb2.block _ (by simp)).trans (heap_alloc_new w _)
      have m0 : w2.cell? ⟨w.heap.size, 0, none⟩ = some (.int .i64 0) := cell_of_row w2 w.heap.size 0 _ _ _ hbx
      have m1 : w2.cell? ⟨w.heap.size, 1, none⟩ = some (.slice none 0 0) := cell_of_row w2 w.heap.size 1 _ _ _ hbx
      have mf := fun o => frozen_of_row w2 w.heap.size o _ _ hbx
      have hbl : w.heap.size < w2.heap.size := (Array.getElem?_eq_some_iff.1 hbx).1
      clear hb2 hbx
      go_wp2_with fail
      refine bodyPost_ret (v := .tuple #[.agg #[.int .i64 0, .slice none 0 0], .bool false]) (by simp [results, Tryz.results187, go_sem, m0, m1]) rfl ?_
      exact ⟨fun _ => rfl, fun nd h => (by rw [HNO.out] at h; cases h), (HB2.out.setCell (Nat.le_refl _) _).setCell (Nat.le_refl _) _⟩
    | some zs =>
      have hzl := numsS_len hn
      have HCF := hid (fun W => countFits_any (kdB s[0]) zs.length W (by omega))
      have HNO : Hid (nodeT s.data.toList = if cntT (kdB s[0]) zs.length = true then some (kdB s[0], zs) else none) := by show _ = _; rw [HSL.out, node_nums, hn]
      rw [hn] at HNB
      clear hn
      go_enter Tryz.func187, Tryz.ntmps187
      go_wp2_with fail
      refine (HK.out _).mono ?_
      rintro e1 w1 ⟨rfl, rfl⟩
      go_wp2_with fail
      refine (HNB.out _).mono ?_
      rintro e2 w2 ⟨_, q2, hb2⟩
      obtain ⟨v2, rfl, ho2⟩ := q2 zs rfl
      have HB2 : Hid (Below w.heap.size w w2) := (below1 w _).trans (hb2.mono (by simp))
      have hbx : w2.heap[w.heap.size]? = _ := (hb2.block _ (by simp)).trans (heap_alloc_new w _)
      have m0 : w2.cell? ⟨w.heap.size, 0, none⟩ = some (.int .i64 0) := cell_of_row w2 w.heap.size 0 _ _ _ hbx
      have m1 : w2.cell? ⟨w.heap.size, 1, none⟩ = some (.slice none 0 0) := cell_of_row w2 w.heap.size 1 _ _ _ hbx
      have mf := fun o => frozen_of_row w2 w.heap.size o _ _ hbx
      have hbl : w.heap.size < w2.heap.size := (Array.getElem?_eq_some_iff.1 hbx).1
      obtain ⟨ao, c, rfl, _, _⟩ := own_val ho2
      have HO2 := hid ho2
      have HBX := hid hbx
      clear hb2 hbx ho2 q2
      generalize hk : cntT (kdB s[0]) zs.length = g at *
      go_wp2_with fail
      refine (HCF.out _).mono ?_
      rintro e3 w3 ⟨rfl, rfl⟩
      cases g
      · go_wp2_with fail
        refine bodyPost_ret (v := .tuple #[.agg #[.int .i64 0, .slice none 0 0], .bool false]) (by simp [results, Tryz.results187, go_sem, m0, m1]) rfl ?_
        exact ⟨fun _ => rfl, fun nd h => (by rw [HNO.out] at h; cases h), (HB2.out.setCell (Nat.le_refl _) _).setCell (Nat.le_refl _) _⟩
      · go_wp2_with fail
        refine bodyPost_ret (v := .tuple #[.agg #[.int .i64 (kdB s[0]), .slice ao zs.length c], .bool true]) (by simp [results, Tryz.results187, go_sem, m0, m1]) rfl ?_
        refine ⟨fun h => (by rw [HNO.out] at h; cases h), fun nd h => ?_, (HB2.out.setCell (Nat.le_refl _) _).setCell (Nat.le_refl _) _⟩
        rw [HNO.out] at h
        cases h
        refine ⟨_, rfl, ?_⟩
        have h3 := own_base HO2.out (show w.heap.size ≤ _ by simp)
        have hk0 := HBX.out
        exact own_put2 hk0 h3 (by decide)
end Go.Proofs.YtebinaopncclgabGreatDoor
