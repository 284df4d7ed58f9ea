/- Walks: the routes of a plan. -/
import Derived.Test.YtebinaopncclgabJText
namespace Go.Proofs.Ytebinaopncclgab
open Go.RowKit Go.IntWalk

/- lists of numbers that are made one by one; they lie in the blocks from B up to U -/
structure Rts (w : World) (B U : Nat) (v : Value) (L : List (List Int)) (vs : List Value) : Prop where
  own : w.ownsRow B 31 1 v vs.length vs
  len : vs.length = L.length
  row : ∀ i (h : i < vs.length) (h' : i < L.length), ∃ gi ci cur, vs[i] = .slice (some ⟨gi, 0, none⟩) L[i].length ci ∧ (B ≤ gi ∧ gi < U) ∧ w.heap[gi]? = some (.cells cur 3 (0, 0)) ∧ ∀ j (hj : j < L[i].length), cur[j]? = some (.int .i64 L[i][j])
theorem Rts.nil (w : World) (B U : Nat) : Rts w B U (.slice none 0 0) [] [] := ⟨World.ownsRow_nil _ _ _ _, rfl, fun i h => absurd h (by simp)⟩
theorem Rts.below {w w' : World} {B U U' : Nat} {v : Value} {L : List (List Int)} {vs : List Value} (h : Rts w B U v L vs) (hb : Below w.heap.size w w') (hU : U ≤ U') : Rts w' B U' v L vs :=
  ⟨own_below h.own hb, h.len, fun i hi hi' => by
    obtain ⟨gi, ci, cur, k1, k2, k3, k4⟩ := h.row i hi hi'
    exact ⟨gi, ci, cur, k1, by omega, by rw [hb.block _ (Array.getElem?_eq_some_iff.1 k3).1]; exact k3, k4⟩⟩
theorem Rts.base {w : World} {B B' U : Nat} {v : Value} {L : List (List Int)} {vs : List Value} (h : Rts w B U v L vs) (hb : B' ≤ B) : Rts w B' U v L vs :=
  ⟨own_base h.own hb, h.len, fun i hi hi' => by
    obtain ⟨gi, ci, cur, k1, k2, k3, k4⟩ := h.row i hi hi'
    exact ⟨gi, ci, cur, k1, by omega, k3, k4⟩⟩
/- read -/
theorem Rts.at {w : World} {B U : Nat} {v : Value} {L : List (List Int)} {vs : List Value} (h : Rts w B U v L vs) {i : Nat} (hi : i < L.length) : ∃ g c gi ci, v = .slice (some ⟨g, 0, none⟩) L.length c ∧ g < w.heap.size ∧ w.cell? ⟨g, i, none⟩ = some (.slice (some ⟨gi, 0, none⟩) L[i].length ci) ∧ gi < w.heap.size ∧ ∀ j (hj : j < L[i].length), w.cell? ⟨gi, j, none⟩ = some (.int .i64 L[i][j]) := by
  have hl := h.len
  obtain ⟨gi, ci, cur, k1, k2, k3, k4⟩ := h.row i (by omega) hi
  obtain ⟨g, cap, e, hg, hc⟩ := own_at h.own (i := i) (by omega) (by omega)
  exact ⟨g, cap, gi, ci, by rw [← hl]; exact e, hg, by rw [hc, k1], (Array.getElem?_eq_some_iff.1 k3).1, fun j hj => by rw [cell_of_row _ _ _ _ _ _ k3]; exact k4 j hj⟩
/- a list more: it is made, with memory of its own -/
theorem Rts.grown {w w' : World} {B U : Nat} {v l : Value} {L : List (List Int)} {vs : List Value} {Bl q : Nat} {zs : List Value} (h : Rts w B U v L vs) (hl : w.ownsRow Bl 3 1 l q zs) (hB : U ≤ Bl) (hg : w.grownBy w' l.ownBlock) : Rts w' B U v L vs :=
  ⟨h.own.kept hg (own_ne h.own hl (by decide)), h.len, fun i hi hi' => by
    obtain ⟨gi, ci, cur, k1, k2, k3, k4⟩ := h.row i hi hi'
    refine ⟨gi, ci, cur, k1, k2, ?_, k4⟩
    rw [hg.block _ (Array.getElem?_eq_some_iff.1 k3).1 (fun e => by have h5 := (hl.lt _ e.symm).1; omega)]; exact k3⟩
/- and appended -/
theorem Rts.push {w X w' : World} {B U Bl : Nat} {v v' l : Value} {L : List (List Int)} {vs : List Value} {zs : List Int} (h : Rts w B U v L vs) (hl : w.ownsRow Bl 3 1 l zs.length (ints zs)) (hn : 0 < zs.length) (hB : B ≤ Bl) (hX : Below w.heap.size w X) (hg : X.grownBy w' v.ownBlock) (ho : w'.ownsRow B 31 1 v' (vs.length + 1) (vs ++ [l])) : Rts w' B w'.heap.size v' (L ++ [zs]) (vs ++ [l]) := by
  have hk : Keep [31] w w' := (Keep.of_below hX).trans (Keep.grown (own_below h.own hX) (by simp) hg)
  have hlen := h.len
  refine ⟨by rw [List.length_append]; exact ho, by simp [hlen], fun i hi hi' => ?_⟩
  by_cases hlt : i < vs.length
  · obtain ⟨gi, ci, cur, k1, k2, k3, k4⟩ := h.row i hlt (by omega)
    have k5 := hk _ _ _ _ k3 (by decide)
    have e : (L ++ [zs])[i] = L[i] := List.getElem_append_left (by omega)
    exact ⟨gi, ci, cur, by rw [List.getElem_append_left hlt, e]; exact k1, ⟨k2.1, (Array.getElem?_eq_some_iff.1 k5).1⟩, k5, fun j hj => by simp only [e] at hj ⊢; exact k4 j hj⟩
  · have hi2 : i = vs.length := by simp at hi; omega
    subst hi2
    have e : (L ++ [zs])[vs.length] = zs := by simp [hlen]
    rcases hl.2 with ⟨_, h0⟩ | ⟨g, cap, cur, rfl, hb, hgc, h1, h2, h3, h4⟩
    · omega
    · have k5 := hk _ _ _ _ hgc (by decide)
      refine ⟨g, cap, cur, by rw [e]; simp, ⟨by omega, (Array.getElem?_eq_some_iff.1 k5).1⟩, k5, fun j hj => ?_⟩
      simp only [e] at hj ⊢
      have h6 : (ints zs)[j]? = some (.int .i64 zs[j]) := by simp [ints, hj]
      rw [← h4, List.getElem?_take_of_lt (by omega)] at h6
      simpa using h6

/- the routes of a plan, by a walk over its bytes -/
def rtStep (st : List (List Int) × List Int) (c : UInt8) : List (List Int) × List Int := if c = 47 then (st.1 ++ [st.2 ++ [0]], [0]) else (st.1, st.2 ++ [(c.toNat : Int) - 48])
def rtGo (l : List UInt8) : List (List Int) × List Int := l.foldl rtStep ([], [0])
def routesS (l : List UInt8) : List (List Int) := if l = [] then [] else (rtGo l).1 ++ [(rtGo l).2 ++ [0]]
theorem rtGo_snoc (l : List UInt8) (c : UInt8) : rtGo (l ++ [c]) = rtStep (rtGo l) c := by simp [rtGo]
theorem rtGo_len (l : List UInt8) : (rtGo l).1.length ≤ l.length ∧ 0 < (rtGo l).2.length ∧ (rtGo l).2.length ≤ l.length + 1 := by
  have key : ∀ n (l : List UInt8), l.length = n → (rtGo l).1.length ≤ l.length ∧ 0 < (rtGo l).2.length ∧ (rtGo l).2.length ≤ l.length + 1 := by
    intro n
    induction n with
    | zero => intro l h; have : l = [] := List.length_eq_zero_iff.1 h; subst this; simp [rtGo]
    | succ n ih =>
      intro l h
      have hne : l ≠ [] := fun e => by rw [e] at h; simp at h
      rw [← List.dropLast_concat_getLast hne, rtGo_snoc]
      have := ih l.dropLast (by simp [h])
      unfold rtStep
      by_cases hc : l.getLast hne = 47
      · rw [if_pos hc]; simp; simp at this; omega
      · rw [if_neg hc]; simp; simp at this; omega
  exact key _ l rfl

set_option maxRecDepth 100000 in
set_option maxHeartbeats 2000000 in
theorem routes_any (s : ByteArray) (w : World) (hs : s.size ≤ 1000) (hb : ∀ k (h : k < s.size), s[k] = 47 ∨ 49 ≤ s[k].toNat) :
    Calls Try.prog 53 #[.string s] w fun e w' => ∃ v vs, e = .returned v ∧ Rts w' w.heap.size w'.heap.size v (routesS s.data.toList) vs ∧ Below w.heap.size w w' := by
  obtain ⟨i0, hi, hz0, hz1, hz2⟩ := info_parts Try.infoInt
  obtain ⟨j0, hj, hy0, hy1, hy2⟩ := info_parts Try.infoInts
  have HBY := hid hb
  clear hb
  go_enter Try.func53, Try.ntmps53
  go_wp2_with fail
  go_loopw [3, 4, 5] (fun lv rv i wr => ∃ (k U : Nat) (vs : List Value), k ≤ s.size ∧ i = .int .i64 k ∧ w.heap.size ≤ U ∧ U ≤ wr.heap.size ∧ Hid (Rts wr w.heap.size U lv (rtGo (s.data.toList.take k)).1 vs) ∧ Hid (wr.ownsRow U 3 1 rv (rtGo (s.data.toList.take k)).2.length (ints (rtGo (s.data.toList.take k)).2)) ∧ Hid (Below w.heap.size w wr)) (fun _ _ i _ => s.size - (intOf i).toNat)
  case atStart =>
    refine ⟨0, w.heap.size, [], Nat.zero_le _, rfl, Nat.le_refl _, by simp, Rts.nil _ _ _, ?_, below1 _ _⟩
    have := World.ownsRow_lit (base := w.heap.size) (e := 3) (size := 1) w #[.int .i64 0] 1 (by simp) (by unfold maxLen; omega) rfl
    show World.ownsRow _ _ _ _ _ _ _
    simpa [rtGo, ints] using this
  case round =>
    obtain ⟨k, U, vs, hk, rfl, hU, hUw, HL, HR, HB⟩ := hrel
    have hlen := rtGo_len (s.data.toList.take k)
    have htl : (s.data.toList.take k).length ≤ k := List.length_take_le _ _
    generalize hst : rtGo (s.data.toList.take k) = st at *
    have hl1 : st.1.length ≤ 1000 := by omega
    have hl2 : 0 < st.2.length := hlen.2.1
    have hl3 : st.2.length ≤ 1001 := by omega
    clear hlen htl
    obtain ⟨g, capr, curr, rfl, _, _, hcr⟩ := own_shape HR.out hl2
    obtain ⟨al, capl, rfl, _, _⟩ := own_val HL.out.own
    have hvl : vs.length ≤ 1000 := by rw [HL.out.len]; exact hl1
    by_cases hlt : k < s.size
    · have HT := hid (take_snoc s k hlt)
      have hb : s[k].toNat < 256 := s[k].toNat_lt
      by_cases hc : s[k].toNat = 47
      · have hc8 : s[k] = 47 := UInt8.toNat_inj.1 (by rw [hc]; rfl)
        have HN : Hid (rtGo (s.data.toList.take (k + 1)) = (st.1 ++ [st.2 ++ [0]], [0])) := by show _ = _; rw [HT.out, rtGo_snoc, hst]; unfold rtStep; rw [if_pos hc8]
        have e1 : ((s[k].toNat : Int) == 47) = true := by simp [hc]
        clear hc8
        go_wp2_with (at_builtin; refine wpList_append_own _ rfl _ _ 31 rfl U 3 i0 (.int .i64 0) 1 8 Try.underlying31 hi hz0 hz1 hz2 rfl (by decide) _ _ _ rfl (HR.out.alloc _) ⟨wr.heap.size, 0, none⟩ 1 1 [.int .i64 (0)] rfl rfl ?c1 ?c2 ?c3 ?c4 ?c5 ?_)
        case c1 => exact cell_one_new _ _ _
        case c2 => intro u hu; simp at hu; subst hu; rfl
        case c3 => unfold maxLen; omega
        case c4 => omega
        case c5 => simp; omega
        intro v1 w1 hown1 hgr1 _
        have hgg1 : (wr.alloc (.cells #[.int .i64 (0)] 3)).grownBy w1 (Value.slice (some ⟨g, 0, none⟩) st.2.length capr).ownBlock := hgr1
        obtain ⟨zs, hzs⟩ : ∃ zs, zs = st.2 ++ [0] := ⟨_, rfl⟩
        have hzl : 0 < zs.length := by rw [hzs]; simp
        have HR1 : Hid (w1.ownsRow U 3 1 v1 zs.length (ints zs)) := by
          show World.ownsRow _ _ _ _ _ _ _
          rw [hzs]; exact (own_int (w := wr) hUw HR.out (Below.refl _ _) hown1 hgg1).1
        have HL1 : Hid (Rts w1 w.heap.size U (.slice al vs.length capl) st.1 vs) := (HL.out.below (below1 wr _) (Nat.le_refl _)).grown (own_below HR.out (below1 wr _)) (Nat.le_refl _) hgg1
        have HB1 : Hid (Below w.heap.size w w1) := (HB.out.trans ((below1 wr _).mono (by omega))).grown hgg1 (by simp; omega) (fun x hx => by have := (HR.out.lt x hx).1; omega)
        have hs1 : U ≤ w1.heap.size := by have h1 := hgg1.size; simp at h1; omega
        rw [← hzs] at HN
        clear hown1 hgr1 hgg1 HR HL HB hzs
        obtain ⟨g1, cap1, cur1, rfl, _, _, _⟩ := own_shape HR1.out hzl
        go_wp2_with (at_builtin; refine wpList_append_own _ rfl _ _ 28 rfl w.heap.size 31 j0 (.slice none 0 0) 1 24 Try.underlying28 hj hy0 hy1 hy2 rfl (by decide) _ _ _ rfl ((HL1.out.own).alloc _) ⟨w1.heap.size, 0, none⟩ 1 1 [.slice (some ⟨g1, 0, none⟩) zs.length cap1] rfl rfl ?d1 ?d2 ?d3 ?d4 ?d5 ?_)
        case d1 => exact news_at rfl rfl
        case d2 => intro u hu; simp at hu; subst hu; rfl
        case d3 => unfold maxLen; omega
        case d4 => omega
        case d5 => simp; omega
        intro v2 w2 hown2 hgr2 _
        have hgg2 : (w1.alloc (.cells #[.slice (some ⟨g1, 0, none⟩) zs.length cap1] 31)).grownBy w2 (Value.slice al vs.length capl).ownBlock := hgr2
        have HL2 : Hid (Rts w2 w.heap.size w2.heap.size v2 (st.1 ++ [zs]) (vs ++ [.slice (some ⟨g1, 0, none⟩) zs.length cap1])) := HL1.out.push HR1.out hzl (by omega) (below1 w1 _) hgg2 hown2
        have HB2 : Hid (Below w.heap.size w w2) := (HB1.out.trans ((below1 w1 _).mono (by omega))).grown hgg2 (by simp; omega) (fun x hx => (HL1.out.own.lt x hx).1)
        have hs2 : w1.heap.size ≤ w2.heap.size := by have h1 := hgg2.size; simp at h1; omega
        clear hown2 hgr2 hgg2 HR1 HL1 HB1
        go_wp2_with fail
        go_roundw
        case rel =>
          refine ⟨k + 1, w2.heap.size, vs ++ [.slice (some ⟨g1, 0, none⟩) zs.length cap1], by omega, by go_num, by omega, by simp, ?_, ?_, HB2.out.trans ((below1 w2 _).mono (by omega))⟩
          · show Rts _ _ _ _ _ _
            rw [HN.out]
            exact HL2.out.below (below1 w2 _) (Nat.le_refl _)
          · have := World.ownsRow_lit (base := w2.heap.size) (e := 3) (size := 1) w2 #[.int .i64 0] 1 (by simp) (by unfold maxLen; omega) rfl
            show World.ownsRow _ _ _ _ _ _ _
            rw [HN.out]
            simpa [ints] using this
        case measure => simp [intOf]; omega
      · have hc8 : s[k] ≠ 47 := fun e => hc (by rw [e]; rfl)
        have h49 : 49 ≤ s[k].toNat := by rcases HBY.out k hlt with h | h; exact absurd h hc8; exact h
        have HN : Hid (rtGo (s.data.toList.take (k + 1)) = (st.1, st.2 ++ [(s[k].toNat : Int) - 48])) := by show _ = _; rw [HT.out, rtGo_snoc, hst]; unfold rtStep; rw [if_neg hc8]
        have e1 : ((s[k].toNat : Int) == 47) = false := by simp; omega
        clear hc8
        go_wp2_with (at_builtin; refine wpList_append_own _ rfl _ _ 31 rfl U 3 i0 (.int .i64 0) 1 8 Try.underlying31 hi hz0 hz1 hz2 rfl (by decide) _ _ _ rfl (HR.out.alloc _) ⟨wr.heap.size, 0, none⟩ 1 1 [.int .i64 ((s[k].toNat : Int) - 48)] rfl rfl ?c1 ?c2 ?c3 ?c4 ?c5 ?_)
        case c1 => exact cell_one_new _ _ _
        case c2 => intro u hu; simp at hu; subst hu; rfl
        case c3 => unfold maxLen; omega
        case c4 => omega
        case c5 => simp; omega
        intro v1 w1 hown1 hgr1 _
        have hgg1 : (wr.alloc (.cells #[.int .i64 ((s[k].toNat : Int) - 48)] 3)).grownBy w1 (Value.slice (some ⟨g, 0, none⟩) st.2.length capr).ownBlock := hgr1
        obtain ⟨zs, hzs⟩ : ∃ zs, zs = st.2 ++ [(s[k].toNat : Int) - 48] := ⟨_, rfl⟩
        have hzl : 0 < zs.length := by rw [hzs]; simp
        have HR1 : Hid (w1.ownsRow U 3 1 v1 zs.length (ints zs)) := by
          show World.ownsRow _ _ _ _ _ _ _
          rw [hzs]; exact (own_int (w := wr) hUw HR.out (Below.refl _ _) hown1 hgg1).1
        have HL1 : Hid (Rts w1 w.heap.size U (.slice al vs.length capl) st.1 vs) := (HL.out.below (below1 wr _) (Nat.le_refl _)).grown (own_below HR.out (below1 wr _)) (Nat.le_refl _) hgg1
        have HB1 : Hid (Below w.heap.size w w1) := (HB.out.trans ((below1 wr _).mono (by omega))).grown hgg1 (by simp; omega) (fun x hx => by have := (HR.out.lt x hx).1; omega)
        have hs1 : U ≤ w1.heap.size := by have h1 := hgg1.size; simp at h1; omega
        rw [← hzs] at HN
        clear hown1 hgr1 hgg1 HR HL HB hzs
        go_wp2
        go_roundw
        case rel =>
          refine ⟨k + 1, U, vs, by omega, by go_num, hU, hs1, ?_, ?_, HB1⟩
          · show Rts _ _ _ _ _ _
            rw [HN.out]; exact HL1.out
          · show World.ownsRow _ _ _ _ _ _ _
            rw [HN.out]; exact HR1.out
        case measure => simp [intOf]; omega
    · have hall : s.data.toList.take k = s.data.toList := take_all s k (by omega)
      by_cases hz : s.size = 0
      · have hnil : s.data.toList = [] := List.length_eq_zero_iff.1 (by simpa using hz)
        have HF : Hid (routesS s.data.toList = [] ∧ st.1 = []) := by
          refine ⟨by unfold routesS; rw [if_pos hnil], ?_⟩
          rw [← hst, hall, hnil]; rfl
        have HV : Hid (s.toList.isEmpty = s.data.toList.isEmpty) := is_void s
        have hv2 : s.toList.isEmpty = true := by rw [HV.out, hnil]; rfl
        go_wp2
        all_goals
          go_ret
          refine ⟨_, vs, rfl, ?_, HB.out⟩
          have := HL.out.below (Below.refl wr.heap.size wr) hUw
          rw [HF.out.2] at this
          rw [HF.out.1]; exact this
      · have hne : s.data.toList ≠ [] := fun e => hz (by have := congrArg List.length e; simpa using this)
        have HF : Hid (routesS s.data.toList = st.1 ++ [st.2 ++ [0]]) := by show _ = _; unfold routesS; rw [if_neg hne, ← hall, hst]
        have HV : Hid (s.toList.isEmpty = s.data.toList.isEmpty) := is_void s
        have hv2 : s.toList.isEmpty = false := by rw [HV.out]; simpa using hne
        clear hall hne
        go_wp2_with (at_builtin; refine wpList_append_own _ rfl _ _ 31 rfl U 3 i0 (.int .i64 0) 1 8 Try.underlying31 hi hz0 hz1 hz2 rfl (by decide) _ _ _ rfl (HR.out.alloc _) ⟨wr.heap.size, 0, none⟩ 1 1 [.int .i64 (0)] rfl rfl ?c1 ?c2 ?c3 ?c4 ?c5 ?_)
        case c1 => exact cell_one_new _ _ _
        case c2 => intro u hu; simp at hu; subst hu; rfl
        case c3 => unfold maxLen; omega
        case c4 => omega
        case c5 => simp; omega
        intro v1 w1 hown1 hgr1 _
        have hgg1 : (wr.alloc (.cells #[.int .i64 (0)] 3)).grownBy w1 (Value.slice (some ⟨g, 0, none⟩) st.2.length capr).ownBlock := hgr1
        obtain ⟨zs, hzs⟩ : ∃ zs, zs = st.2 ++ [0] := ⟨_, rfl⟩
        have hzl : 0 < zs.length := by rw [hzs]; simp
        have HR1 : Hid (w1.ownsRow U 3 1 v1 zs.length (ints zs)) := by
          show World.ownsRow _ _ _ _ _ _ _
          rw [hzs]; exact (own_int (w := wr) hUw HR.out (Below.refl _ _) hown1 hgg1).1
        have HL1 : Hid (Rts w1 w.heap.size U (.slice al vs.length capl) st.1 vs) := (HL.out.below (below1 wr _) (Nat.le_refl _)).grown (own_below HR.out (below1 wr _)) (Nat.le_refl _) hgg1
        have HB1 : Hid (Below w.heap.size w w1) := (HB.out.trans ((below1 wr _).mono (by omega))).grown hgg1 (by simp; omega) (fun x hx => by have := (HR.out.lt x hx).1; omega)
        have hs1 : U ≤ w1.heap.size := by have h1 := hgg1.size; simp at h1; omega
        rw [← hzs] at HF
        clear hown1 hgr1 hgg1 HR HL HB hzs
        obtain ⟨g1, cap1, cur1, rfl, _, _, _⟩ := own_shape HR1.out hzl
        go_wp2_with (at_builtin; refine wpList_append_own _ rfl _ _ 28 rfl w.heap.size 31 j0 (.slice none 0 0) 1 24 Try.underlying28 hj hy0 hy1 hy2 rfl (by decide) _ _ _ rfl ((HL1.out.own).alloc _) ⟨w1.heap.size, 0, none⟩ 1 1 [.slice (some ⟨g1, 0, none⟩) zs.length cap1] rfl rfl ?d1 ?d2 ?d3 ?d4 ?d5 ?_)
        case d1 => exact news_at rfl rfl
        case d2 => intro u hu; simp at hu; subst hu; rfl
        case d3 => unfold maxLen; omega
        case d4 => omega
        case d5 => simp; omega
        intro v2 w2 hown2 hgr2 _
        have hgg2 : (w1.alloc (.cells #[.slice (some ⟨g1, 0, none⟩) zs.length cap1] 31)).grownBy w2 (Value.slice al vs.length capl).ownBlock := hgr2
        have HL2 : Hid (Rts w2 w.heap.size w2.heap.size v2 (st.1 ++ [zs]) (vs ++ [.slice (some ⟨g1, 0, none⟩) zs.length cap1])) := HL1.out.push HR1.out hzl (by omega) (below1 w1 _) hgg2 hown2
        have HB2 : Hid (Below w.heap.size w w2) := (HB1.out.trans ((below1 w1 _).mono (by omega))).grown hgg2 (by simp; omega) (fun x hx => (HL1.out.own.lt x hx).1)
        have hs2 : w1.heap.size ≤ w2.heap.size := by have h1 := hgg2.size; simp at h1; omega
        clear hown2 hgr2 hgg2 HR1 HL1 HB1
        go_wp2
        go_ret
        refine ⟨_, vs ++ [.slice (some ⟨g1, 0, none⟩) zs.length cap1], rfl, ?_, HB2.out⟩
        rw [HF.out]; exact HL2.out
end Go.Proofs.Ytebinaopncclgab
