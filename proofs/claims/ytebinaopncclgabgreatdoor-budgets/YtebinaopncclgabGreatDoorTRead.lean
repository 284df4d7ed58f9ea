/- Walks: the text of a tree is read. -/
import Derived.Test.YtebinaopncclgabGreatDoorTNode
namespace Go.Proofs.YtebinaopncclgabGreatDoor
open Go.RowKit Go.IntWalk

/- nodes in memory -/
def cellsN (L : List NodeT) (vs : List Value) : List Value := ((L.zip vs).map fun p => [Value.int .i64 p.1.1, p.2]).flatten
theorem cellsN_snoc {L : List NodeT} {vs : List Value} (h : vs.length = L.length) (nd : NodeT) (v : Value) : cellsN (L ++ [nd]) (vs ++ [v]) = cellsN L vs ++ [.int .i64 nd.1, v] := by
  unfold cellsN
  rw [List.zip_append h.symm]; simp
def NodesR (w : World) (B : Nat) (v : Value) (L : List NodeT) : Prop :=
  ∃ vs : List Value, vs.length = L.length ∧ w.ownsRow B 76 2 v L.length (cellsN L vs) ∧ ∀ i (h : i < L.length), w.ownsRow B 3 1 (vs.getD i (.slice none 0 0)) L[i].2.length (ints L[i].2)
theorem NodesR.nil (w : World) (B : Nat) : NodesR w B (.slice none 0 0) [] := ⟨[], rfl, World.ownsRow_nil _ _ _ _, fun i h => absurd h (by simp)⟩
theorem NodesR.below {w w' : World} {B : Nat} {v : Value} {L : List NodeT} (h : NodesR w B v L) (hb : Below w.heap.size w w') : NodesR w' B v L := by
  obtain ⟨vs, h1, h2, h3⟩ := h
  exact ⟨vs, h1, own_below h2 hb, fun i hi => own_below (h3 i hi) hb⟩
theorem NodesR.base {w : World} {B B' : Nat} {v : Value} {L : List NodeT} (h : NodesR w B v L) (hb : B' ≤ B) : NodesR w B' v L := by
  obtain ⟨vs, h1, h2, h3⟩ := h
  exact ⟨vs, h1, own_base h2 hb, fun i hi => own_base (h3 i hi) hb⟩
theorem NodesR.push {w X w' : World} {B : Nat} {v v' l : Value} {L : List NodeT} {vs : List Value} {nd : NodeT} (h1 : vs.length = L.length) (h2 : w.ownsRow B 76 2 v L.length (cellsN L vs)) (h3 : ∀ i (h : i < L.length), w.ownsRow B 3 1 (vs.getD i (.slice none 0 0)) L[i].2.length (ints L[i].2))
    (hl : w.ownsRow B 3 1 l nd.2.length (ints nd.2)) (hX : Below w.heap.size w X) (hg : X.grownBy w' v.ownBlock) (ho : w'.ownsRow B 76 2 v' (L.length + 1) (cellsN L vs ++ [.int .i64 nd.1, l])) : NodesR w' B v' (L ++ [nd]) := by
  have hk : Keep [76] X w' := Keep.grown (own_below h2 hX) (by simp) hg
  refine ⟨vs ++ [l], by simp [h1], ?_, fun i hi => ?_⟩
  · rw [cellsN_snoc h1, List.length_append]; exact ho
  · by_cases hlt : i < L.length
    · have e1 : (vs ++ [l]).getD i (.slice none 0 0) = vs.getD i (.slice none 0 0) := by
        rw [List.getD_eq_getElem?_getD, List.getElem?_append_left (by omega), ← List.getD_eq_getElem?_getD]
      have e2 : (L ++ [nd])[i] = L[i] := List.getElem_append_left hlt
      rw [e1, e2]
      exact own_keep (own_below (h3 i hlt) hX) hk (by decide)
    · have he : i = L.length := by simp at hi; omega
      subst he
      have e1 : (vs ++ [l]).getD L.length (.slice none 0 0) = l := by rw [List.getD_eq_getElem?_getD, ← h1]; simp
      have e2 : (L ++ [nd])[L.length] = nd := by simp
      rw [e1, e2]
      exact own_keep (own_below hl hX) hk (by decide)
/- .. and no two of its lists share a block -/
def NodesD (w : World) (B : Nat) (v : Value) (L : List NodeT) : Prop :=
  ∃ vs : List Value, vs.length = L.length ∧ w.ownsRow B 76 2 v L.length (cellsN L vs) ∧ (∀ i (h : i < L.length), w.ownsRow B 3 1 (vs.getD i (.slice none 0 0)) L[i].2.length (ints L[i].2)) ∧ ∀ i j, i < j → j < L.length → ∀ q, (vs.getD i (.slice none 0 0)).ownBlock = some q → (vs.getD j (.slice none 0 0)).ownBlock ≠ some q
theorem NodesD.r {w : World} {B : Nat} {v : Value} {L : List NodeT} (h : NodesD w B v L) : NodesR w B v L := by obtain ⟨vs, h1, h2, h3, _⟩ := h; exact ⟨vs, h1, h2, h3⟩
theorem NodesD.nil (w : World) (B : Nat) : NodesD w B (.slice none 0 0) [] := ⟨[], rfl, World.ownsRow_nil _ _ _ _, fun i h => absurd h (by simp), fun i j _ h => absurd h (by simp)⟩
theorem NodesD.below {w w' : World} {B : Nat} {v : Value} {L : List NodeT} (h : NodesD w B v L) (hb : Below w.heap.size w w') : NodesD w' B v L := by
  obtain ⟨vs, h1, h2, h3, h4⟩ := h
  exact ⟨vs, h1, own_below h2 hb, fun i hi => own_below (h3 i hi) hb, h4⟩
theorem NodesD.base {w : World} {B B' : Nat} {v : Value} {L : List NodeT} (h : NodesD w B v L) (hb : B' ≤ B) : NodesD w B' v L := by
  obtain ⟨vs, h1, h2, h3, h4⟩ := h
  exact ⟨vs, h1, own_base h2 hb, fun i hi => own_base (h3 i hi) hb, h4⟩
theorem NodesD.push {w X w' : World} {B : Nat} {v v' l : Value} {L : List NodeT} {vs : List Value} {nd : NodeT} (h1 : vs.length = L.length) (h2 : w.ownsRow B 76 2 v L.length (cellsN L vs)) (h3 : ∀ i (h : i < L.length), w.ownsRow B 3 1 (vs.getD i (.slice none 0 0)) L[i].2.length (ints L[i].2))
    (h4 : ∀ i j, i < j → j < L.length → ∀ q, (vs.getD i (.slice none 0 0)).ownBlock = some q → (vs.getD j (.slice none 0 0)).ownBlock ≠ some q) (h5 : ∀ i, i < L.length → ∀ q, (vs.getD i (.slice none 0 0)).ownBlock = some q → l.ownBlock ≠ some q)
    (hl : w.ownsRow B 3 1 l nd.2.length (ints nd.2)) (hX : Below w.heap.size w X) (hg : X.grownBy w' v.ownBlock) (ho : w'.ownsRow B 76 2 v' (L.length + 1) (cellsN L vs ++ [.int .i64 nd.1, l])) : NodesD w' B v' (L ++ [nd]) := by
  have hk : Keep [76] X w' := Keep.grown (own_below h2 hX) (by simp) hg
  have e1 : ∀ i, i < L.length → (vs ++ [l]).getD i (.slice none 0 0) = vs.getD i (.slice none 0 0) := fun i hi => by
    rw [List.getD_eq_getElem?_getD, List.getElem?_append_left (by omega), ← List.getD_eq_getElem?_getD]
  have e2 : (vs ++ [l]).getD L.length (.slice none 0 0) = l := by rw [List.getD_eq_getElem?_getD, ← h1]; simp
  refine ⟨vs ++ [l], by simp [h1], ?_, fun i hi => ?_, fun i j hij hj q hq => ?_⟩
  · rw [cellsN_snoc h1, List.length_append]; exact ho
  · by_cases hlt : i < L.length
    · have e3 : (L ++ [nd])[i] = L[i] := List.getElem_append_left hlt
      rw [e1 i hlt, e3]
      exact own_keep (own_below (h3 i hlt) hX) hk (by decide)
    · have he : i = L.length := by simp at hi; omega
      subst he
      have e3 : (L ++ [nd])[L.length] = nd := by simp
      rw [e2, e3]
      exact own_keep (own_below hl hX) hk (by decide)
  · have hj' : j < L.length + 1 := by simpa using hj
    rw [e1 i (by omega)] at hq
    by_cases hlt : j < L.length
    · rw [e1 j hlt]; exact h4 i j hij hlt q hq
    · have he : j = L.length := by omega
      subst he
      rw [e2]; exact h5 i hij q hq
theorem own_lt {w : World} {B n size : Nat} {e : TypeId} {v : Value} {xs : List Value} (h : w.ownsRow B e size v n xs) {q : Nat} (hq : v.ownBlock = some q) : B ≤ q ∧ q < w.heap.size := by
  rcases h.2 with ⟨h1, _⟩ | ⟨g, cap, cur, h1, h2, h3, h4⟩
  · rw [h1] at hq; cases hq
  · rw [h1] at hq; cases hq; exact ⟨h2, (Array.getElem?_eq_some_iff.1 h3).1⟩
theorem news_t {w X : World} {cs : Array Value} {t : TypeId} {l : List Value} {b : Nat} (hh : X.heap = (w.alloc (.cells cs t)).heap) (hl : l = cs.toList) (hb : w.heap.size = b) : ∀ j u, l[j]? = some u → X.cell? ((⟨b, 0, none⟩ : Addr).add j) = some u := by
  subst hb; exact news_at hl hh
theorem Tryz.infoNode : (Tryz.prog.info? 76).map (fun i => (i.zero, i.size, i.bytes)) = some (some (.agg #[.int .i64 0, .slice none 0 0]), 2, 32) := by kernel_rfl

def ReadLeft (w : World) (x : List NodeT × Nat × Int) (e : Ending) (w' : World) : Prop :=
  (x.2.2 ≠ 0 → e = .returned (.tuple #[.slice none 0 0, .int .i64 x.2.1, .int .i64 14])) ∧ (x.2.2 = 0 → ∃ v, e = .returned (.tuple #[v, .int .i64 0, .int .i64 0]) ∧ NodesR w' w.heap.size v x.1) ∧ Below w.heap.size w w'
def ReadLeftD (w : World) (x : List NodeT × Nat × Int) (e : Ending) (w' : World) : Prop :=
  (x.2.2 ≠ 0 → e = .returned (.tuple #[.slice none 0 0, .int .i64 x.2.1, .int .i64 14])) ∧ (x.2.2 = 0 → ∃ v, e = .returned (.tuple #[v, .int .i64 0, .int .i64 0]) ∧ NodesD w' w.heap.size v x.1) ∧ Below w.heap.size w w'

theorem go_last {l : List UInt8} {o : Nat} {L : List NodeT} (ho : o ≠ 0) (h : (10 : UInt8) ∉ l) : goT o L (splitR 10 l) = ([], L.length + 1, 14) := by
  rw [splitR_none h, goT_one, if_neg (fun hh => ho hh.2)]
theorem go_line {a b : List UInt8} {o : Nat} {L : List NodeT} (ho : o ≠ 0) (h : (10 : UInt8) ∉ a) : goT o L (splitR 10 (a ++ 10 :: b)) = match nodeT a with | none => ([], L.length + 1, 14) | some nd => goT (nextT o nd.1) (L ++ [nd]) (splitR 10 b) := by
  rw [splitR_at h]
  cases hs : splitR 10 b with
  | nil => exact absurd hs (splitR_ne _ _)
  | cons p ps => rw [goT_two, if_neg ho]; rfl
theorem go_over {l : List UInt8} {L : List NodeT} (h : l ≠ []) : goT 0 L (splitR 10 l) = ([], L.length + 1, 14) := by
  cases hs : splitR 10 l with
  | nil => exact absurd hs (splitR_ne _ _)
  | cons p ps =>
    cases ps with
    | nil =>
      rw [goT_one, if_neg]
      rintro ⟨hp, _⟩
      subst hp
      cases l with
      | nil => exact h rfl
      | cons c t =>
        rw [splitR_cons] at hs
        split at hs
        · injection hs with _ h1; exact absurd h1 (splitR_ne _ _)
        · cases ht : splitR 10 t with
          | nil => rw [ht] at hs; cases hs
          | cons q qs => rw [ht] at hs; cases hs
    | cons q qs => rw [goT_two, if_pos rfl]

set_option maxRecDepth 100000 in
set_option maxHeartbeats 4000000 in
theorem tread_big (s : ByteArray) (w : World) (hs : s.size ≤ 70368744177664) (hct : s.data.toList.count 10 ≤ 4000000000000) :
    Calls Tryz.prog 125 #[.string s] w (ReadLeftD w (readT s.data.toList)) := by
  obtain ⟨i0, hi, hz0, hz1, hz2⟩ := info_parts Tryz.infoNode
  have hl : s.data.toList.length = s.size := by simp
  have HL := hid hl
  have HCT := hid hct
  clear hct
  have HFD : Hid (∀ (k : Nat) (W : World), k ≤ s.size → Calls Tryz.prog 186 #[.string s, .int .i64 k, .int .u8 10] W fun e w' => e = .returned (.int .i64 (fdN s.data.toList k 10)) ∧ w' = W) := fun k W hk => find_any s k 10 W (by unfold maxLen; omega) hk
  have HNO : Hid (∀ (t : ByteArray) (W : World), t.size ≤ s.size → Calls Tryz.prog 187 #[.string t] W (NodeLeft W (nodeT t.data.toList))) := fun t W ht => nodeOf_any t W (by unfold maxLen; omega)
  clear hl
  go_enter Tryz.func125, Tryz.ntmps125
  go_wp2
  go_loopw [5, 6, 7] (fun lv ov i wr => ∃ (k o : Nat) (L : List NodeT), i = .int .i64 k ∧ ov = .int .i64 o ∧ k ≤ s.size ∧ L.length ≤ k ∧ o ≤ k + 1 ∧ Hid (readT s.data.toList = goT o L (splitR 10 (s.data.toList.drop k))) ∧ Hid (NodesD wr w.heap.size lv L) ∧ Hid (Below w.heap.size w wr) ∧ Hid (L.length + (s.data.toList.drop k).count 10 ≤ s.data.toList.count 10)) (fun _ _ i _ => s.size - (intOf i).toNat)
  case atStart => exact ⟨0, 1, [], rfl, rfl, by omega, by simp, by omega, rfl, NodesD.nil _ _, Below.refl _ _, by show _ ≤ _; simp⟩
  case round =>
    obtain ⟨k, o, L, rfl, rfl, hk, hLk, hok, HG, HN, HB, HCK⟩ := hrel
    obtain ⟨vs, hv1, hv2, hv3, hv4⟩ := HN.out
    obtain ⟨ao, c, rfl, _, _⟩ := own_val hv2
    have HV1 := hid hv1
    have HV2 := hid hv2
    have HV3 := hid hv3
    have HV4 := hid hv4
    clear hv1 hv2 hv3 hv4
    by_cases h0 : o = 0
    · subst h0
      by_cases hlt : k < s.size
      · have HR : Hid (readT s.data.toList = ([], L.length + 1, 14)) := by
          show _ = _
          rw [HG.out, go_over (fun h => by have h2 := congrArg List.length h; simp at h2; omega)]
        go_wp2_with fail
        go_ret3
        exact ⟨fun _ => by rw [HR.out]; rfl, fun h => (by rw [HR.out] at h; cases h), HB.out⟩
      · have HR : Hid (readT s.data.toList = (L, 0, 0)) := by
          show _ = _
          rw [HG.out, List.drop_of_length_le (by rw [HL.out]; omega)]; rfl
        go_wp2_with fail
        go_ret3
        exact ⟨fun h => absurd (by rw [HR.out]) h, fun _ => ⟨_, rfl, by rw [HR.out]; exact HN.out⟩, HB.out⟩
    · have hfl := fn_le s.data.toList k 10
      rw [HL.out] at hfl
      have htw := tw_take (· != 10) (s.data.toList.drop k)
      have happ := List.takeWhile_append_dropWhile (p := (· != (10 : UInt8))) (l := s.data.toList.drop k)
      have HNL : Hid ((10 : UInt8) ∉ (s.data.toList.drop k).takeWhile (· != 10)) := fun hm => by have := List.all_eq_true.1 (List.all_takeWhile (p := (· != (10 : UInt8))) (l := s.data.toList.drop k)) _ hm; simp at this
      have HW : Hid ((s.extract k (fdN s.data.toList k 10)).data.toList = (s.data.toList.drop k).takeWhile (· != 10)) := by
        show _ = _
        rw [Lib.extract_eq]
        show (((s.data.toList.drop k).take (fdN s.data.toList k 10 - k)).toArray).toList = _
        rw [List.toList_toArray, htw.1]
        unfold fdN
        rw [Nat.add_sub_cancel_left]
      have HD : Hid (s.data.toList.drop (fdN s.data.toList k 10) = (s.data.toList.drop k).dropWhile (· != 10)) := by
        show _ = _
        rw [htw.2, List.drop_drop]; rfl
      have HF := hid (HFD.out k wr hk)
      have HAP := hid happ
      obtain ⟨e, hE⟩ : ∃ e, fdN s.data.toList k 10 = e := ⟨_, rfl⟩
      rw [hE] at hfl HW HD HF
      have h1 : k ≤ e := hfl.1
      have h2 : e ≤ s.size := hfl.2 hk
      clear htw hfl hE happ
      by_cases he : e = s.size
      · have heb : ((e : Int) == (s.size : Int)) = true := by rw [he]; simp
        have HR : Hid (readT s.data.toList = ([], L.length + 1, 14)) := by
          show _ = _
          rw [HG.out]
          refine go_last h0 ?_
          have h3 := HD.out
          rw [List.drop_of_length_le (by rw [HL.out]; omega)] at h3
          have h4 := HAP.out
          rw [← h3, List.append_nil] at h4
          rw [← h4]; exact HNL.out
        go_wp2_with fail
        refine HF.out.mono ?_
        rintro e1 w1 ⟨rfl, rfl⟩
        go_wp2_with fail
        go_ret3
        exact ⟨fun _ => by rw [HR.out]; rfl, fun h => (by rw [HR.out] at h; cases h), HB.out⟩
      · have heb : ((e : Int) == (s.size : Int)) = false := by rw [beq_eq_false_iff_ne]; omega
        have HSP : Hid (s.data.toList.drop k = (s.data.toList.drop k).takeWhile (· != 10) ++ 10 :: s.data.toList.drop (e + 1)) := by
          show _ = _
          have h3 := HD.out
          rw [List.drop_eq_getElem_cons (by rw [HL.out]; omega)] at h3
          have h5 := List.head?_dropWhile_not (fun x : UInt8 => x != 10) (s.data.toList.drop k)
          rw [← h3] at h5
          have h6 : s.data.toList[e]'(by rw [HL.out]; omega) = 10 := by simpa using h5
          conv => lhs; rw [← HAP.out, ← h3, h6]
        have HCE : Hid (L.length + 1 + (s.data.toList.drop (e + 1)).count 10 ≤ s.data.toList.count 10) := by
          have h7 := HCK.out
          rw [HSP.out, List.count_append, List.count_cons_self] at h7
          show _ ≤ _
          omega
        have HNB := hid (HNO.out (s.extract k e) wr (by simp; omega))
        rw [HW.out] at HNB
        have HGO : Hid (readT s.data.toList = match nodeT ((s.data.toList.drop k).takeWhile (· != 10)) with | none => ([], L.length + 1, 14) | some nd => goT (nextT o nd.1) (L ++ [nd]) (splitR 10 (s.data.toList.drop (e + 1)))) := by
          show _ = _
          rw [HG.out, HSP.out, go_line h0 HNL.out, ← HSP.out]
        generalize (s.data.toList.drop k).takeWhile (· != 10) = ln at *
        clear HSP HD HW HAP HNL
        cases hn : nodeT ln with
        | none =>
          have HR : Hid (readT s.data.toList = ([], L.length + 1, 14)) := by show _ = _; rw [HGO.out, hn]
          rw [hn] at HNB
          clear hn HGO
          go_wp2_with fail
          refine HF.out.mono ?_
          rintro e1 w1 ⟨rfl, rfl⟩
          go_wp2_with fail
          refine HNB.out.mono ?_
          rintro e2 w2 ⟨q1, _, hb2⟩
          have q1 := q1 rfl
          subst q1
          have HB2 : Hid (Below w.heap.size w w2) := HB.out.trans (hb2.mono HB.out.size)
          clear hb2
          go_wp2_with fail
          go_ret3
          exact ⟨fun _ => by rw [HR.out]; rfl, fun h => (by rw [HR.out] at h; cases h), HB2.out.alloc HB2.out.size _⟩
        | some nd =>
          have HR : Hid (readT s.data.toList = goT (nextT o nd.1) (L ++ [nd]) (splitR 10 (s.data.toList.drop (e + 1)))) := by show _ = _; rw [HGO.out, hn]
          rw [hn] at HNB
          clear hn HGO
          go_wp2_with fail
          refine HF.out.mono ?_
          rintro e1 w1 ⟨rfl, rfl⟩
          go_wp2_with fail
          refine HNB.out.mono ?_
          rintro e2 w2 ⟨_, q2, hb2⟩
          obtain ⟨v2, rfl, ho2⟩ := q2 nd rfl
          have HB2 : Hid (Below w.heap.size w w2) := HB.out.trans (hb2.mono HB.out.size)
          have HL2 := hid (own_base ho2 HB.out.size)
          have HN2 := hid (own_below HV2.out hb2)
          have HR2 : Hid (∀ i (h : i < L.length), w2.ownsRow w.heap.size 3 1 (vs.getD i (.slice none 0 0)) L[i].2.length (ints L[i].2)) := fun i h => own_below (HV3.out i h) hb2
          have HF2 : Hid (∀ i, i < L.length → ∀ q, (vs.getD i (.slice none 0 0)).ownBlock = some q → v2.ownBlock ≠ some q) := fun i h q hq hq2 => by have h1 := (own_lt (HV3.out i h) hq).2; have h2 := (own_lt ho2 hq2).1; omega
          obtain ⟨al, cl, rfl, _, _⟩ := own_val ho2
          have hz2w := HB2.out.size
          clear hb2 q2 ho2
          go_wp2_with (first
            | (at_builtin; refine wpList_append_own _ rfl _ _ 56 rfl w.heap.size 76 i0 (.agg #[.int .i64 0, .slice none 0 0]) 2 32 Tryz.underlying56 hi hz0 hz1 hz2 rfl (by decide) _ _ _ rfl ((HN2.out.alloc _).alloc _) ⟨w2.heap.size + 1, 0, none⟩ 1 1 [.int .i64 nd.1, .slice al nd.2.length cl] rfl rfl ?c1 ?c2 ?c3 ?c4 ?c5 ?_)
            | fail)
          case c1 => exact news_t (w := w2.alloc _) rfl rfl (by simp)
          case c2 => intro u hu; simp at hu; rcases hu with rfl | rfl <;> rfl
          case c3 => unfold maxLen; omega
          case c4 => have h8 := HCE.out; have h9 := HCT.out; omega
          case c5 => simp; omega
          intro v3 w3 hown3 hgr3 _
          have hX : Below w2.heap.size w2 ((w2.alloc (.cells #[.int .i64 nd.1, .slice al nd.2.length cl] 76)).alloc (.cells #[.int .i64 nd.1, .slice al nd.2.length cl] 76)) := below2 w2 _ _
          have HN3 : Hid (NodesD w3 w.heap.size v3 (L ++ [nd])) := NodesD.push HV1.out HN2.out HR2.out HV4.out HF2.out HL2.out hX hgr3 hown3
          have HB3 : Hid (Below w.heap.size w w3) := (HB2.out.trans (hX.mono hz2w)).grown hgr3 (by simp; omega) (fun q hq => (HN2.out.lt q hq).1)
          have hbx : w3.heap[w2.heap.size]? = some (.cells #[.int .i64 nd.1, .slice al nd.2.length cl] 76 (0, 0)) := by
            have h4 : ((w2.alloc (.cells #[.int .i64 nd.1, .slice al nd.2.length cl] 76)).alloc (.cells #[.int .i64 nd.1, .slice al nd.2.length cl] 76)).heap[w2.heap.size]? = some (.cells #[.int .i64 nd.1, .slice al nd.2.length cl] 76 (0, 0)) := by
              rw [Below.heap_alloc _ _ _ (by simp)]; exact heap_alloc_new w2 _
            rw [hgr3.block _ (Array.getElem?_eq_some_iff.1 h4).1 (fun he => by have := (HN2.out.lt _ he.symm).2; omega)]; exact h4
          have n0 : w3.cell? ⟨w2.heap.size, 0, none⟩ = some (.int .i64 nd.1) := cell_of_row w3 w2.heap.size 0 _ _ _ hbx
          have hbl : w2.heap.size < w3.heap.size := (Array.getElem?_eq_some_iff.1 hbx).1
          have HMI := hid (missing_any o nd.1 w3 (by omega) (by omega))
          have hnx : nextT o nd.1 ≤ e + 1 + 1 := by unfold nextT; split <;> omega
          have HNX := hid hnx
          clear hX hown3 hgr3 hbx hnx
          obtain ⟨vs3, q1, q2, q3⟩ := HN3.out
          obtain ⟨a3, c3, rfl, _, _⟩ := own_val q2
          clear q1 q2 q3
          go_wp2_with fail
          refine HMI.out.mono ?_
          rintro e4 w4 ⟨rfl, rfl⟩
          clear HMI n0
          go_wp2_with fail
          go_roundw
          case rel => exact ⟨e + 1, nextT o nd.1, L ++ [nd], by go_num, rfl, by omega, by simp; omega, HNX.out, HR.out, (by have h9 := HN3.out; rw [List.length_append] at h9; exact h9), HB3.out, (by show _ ≤ _; have h8 := HCE.out; rw [List.length_append, List.length_singleton]; omega)⟩
          case measure => simp [intOf]; omega
/- a text that Read can take -/
def ShortT (t : ByteArray) : Prop := t.size ≤ 70368744177664 ∧ t.data.toList.count 10 ≤ 4000000000000
theorem tread_s (s : ByteArray) (w : World) (hs : ShortT s) :
    Calls Tryz.prog 125 #[.string s] w (ReadLeft w (readT s.data.toList)) := by
  refine (tread_big s w hs.1 hs.2).mono ?_
  rintro e w' ⟨h1, h2, h3⟩
  exact ⟨h1, fun h => by obtain ⟨v, k1, k2⟩ := h2 h; exact ⟨v, k1, k2.r⟩, h3⟩
end Go.Proofs.YtebinaopncclgabGreatDoor
