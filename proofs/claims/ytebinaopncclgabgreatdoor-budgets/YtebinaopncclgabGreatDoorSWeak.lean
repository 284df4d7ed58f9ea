/- Walks: the chain of a tour that has the fewest free arcs. -/
import Derived.Test.YtebinaopncclgabGreatDoorSTour
namespace Go.Proofs.YtebinaopncclgabGreatDoor
open Go.RowKit Go.IntWalk

theorem zL_nat (c : List Nat) : (zL c).map Int.toNat = c := nat_list c
theorem zL_snoc (c : List Nat) (x : Nat) : zL (c ++ [x]) = zL c ++ [(x : Int)] := by simp [zL]
theorem chain_p {I : Ins} {bh : Nat → Nat} {fs c : List Nat} (h : ChainOk I bh fs c) : ChainP I.n (zL c) := by
  refine ⟨fun e => h.ne (by simpa [zL] using e), fun x hx => ?_, fun i hi h0 => ?_⟩
  · obtain ⟨s, hs, rfl⟩ := List.mem_map.1 hx
    have := h.rng s hs
    omega
  · rw [zL_len] at hi
    rw [zL_get] at h0
    have h1 : c.getD (i + 1) 0 = 0 := by omega
    have hsp : c = c.take (i + 1) ++ 0 :: c.drop (i + 2) := by
      have e1 : c = c.take (i + 1) ++ c.drop (i + 1) := (List.take_append_drop _ _).symm
      have e2 : c.drop (i + 1) = c[i + 1] :: c.drop (i + 2) := List.drop_eq_getElem_cons (by omega)
      have e3 : c[i + 1] = 0 := by rw [List.getD_eq_getElem?_getD, List.getElem?_eq_getElem (by omega), Option.getD_some] at h1; exact h1
      rw [e3] at e2
      rw [← e2]; exact e1
    rcases h.ends _ _ hsp with h2 | h2
    · have := congrArg List.length h2
      rw [List.length_take, List.length_nil] at this
      omega
    · have := congrArg List.length h2
      rw [List.length_drop, List.length_nil] at this
      omega
def sliceN : Value → Nat
  | .slice _ n _ => n
  | _ => 0
open Classical in
theorem blkQ_stop {I : Ins} {bh : Nat → Nat} {f : Nat} {c : List Nat} (h : BlockedQ I c) : blkQ I bh (f + 1) c = c := by
  show (if BlockedQ I c then c else if c.getLast?.getD 0 = 0 then [] else blkQ I bh f (c ++ [bh (c.getLast?.getD 0)])) = c
  rw [if_pos h]
open Classical in
theorem blkQ_home {I : Ins} {bh : Nat → Nat} {f : Nat} {c : List Nat} (h : ¬ BlockedQ I c) (h0 : c.getLast?.getD 0 = 0) : blkQ I bh (f + 1) c = [] := by
  show (if BlockedQ I c then c else if c.getLast?.getD 0 = 0 then [] else blkQ I bh f (c ++ [bh (c.getLast?.getD 0)])) = []
  rw [if_neg h, if_pos h0]
open Classical in
theorem blkQ_more {I : Ins} {bh : Nat → Nat} {f : Nat} {c : List Nat} (h : ¬ BlockedQ I c) (h0 : c.getLast?.getD 0 ≠ 0) : blkQ I bh (f + 1) c = blkQ I bh f (c ++ [bh (c.getLast?.getD 0)]) := by
  show (if BlockedQ I c then c else if c.getLast?.getD 0 = 0 then [] else blkQ I bh f (c ++ [bh (c.getLast?.getD 0)])) = _
  rw [if_neg h, if_neg h0]
theorem last_getD {c : List Nat} (_h : c ≠ []) : c.getLast?.getD 0 = c.getD (c.length - 1) 0 := by
  rw [List.getLast?_eq_getElem?, List.getD_eq_getElem?_getD]

set_option maxRecDepth 100000 in
set_option maxHeartbeats 4000000 in
theorem sblk_any (p t : Nat) (r : Rd) (D : Nat → Nat → Int) (bh : Nat → Nat) (fs c : List Nat) (v vs vf : Value) (w : World) (hok : RdOk r) (ha : AreaAt w p r D vs vf) (hD : ∀ a b, a < r.stops.length + 1 → b < r.stops.length + 1 → -1 ≤ D a b ∧ D a b ≤ 40960000)
    (ht : TourO w t r.stops.length bh fs) (hq : TourQ (insOf r D) bh fs) (hr : ListR w v (zL c)) (hc : ChainOk (insOf r D) bh fs c) (hl : c.length ≤ 2) :
    Calls Tryz.prog 196 #[.pointer (some ⟨p, 0, none⟩), .pointer (some ⟨t, 0, none⟩), v] w fun e w' => ∃ x, e = .returned x ∧ w'.ownsRow w.heap.size 3 1 x (chainQ (insOf r D) bh c).length (ints (zL (chainQ (insOf r D) bh c))) ∧ Below w.heap.size w w' := by
  obtain ⟨i0, hi, hz0, hz1, hz2⟩ := info_parts Tryz.infoInt
  have hn7 := hok.nstops
  have HTO := hid ht
  have HA := hid ha
  have HTQ := hid hq
  have HCH := hid hc
  have htl := ht.lt
  have hcl : 0 < c.length := List.length_pos_iff.2 hc.ne
  have HBL : Hid (∀ (W : World) (x : Value) (c' : List Nat), Below w.heap.size w W → ChainOk (insOf r D) bh fs c' → c'.length ≤ 10 → ListR W x (zL c') → Calls Tryz.prog 219 #[.pointer (some ⟨p, 0, none⟩), x] W fun e w' => e = .returned (.bool (@decide (BlockedQ (insOf r D) c') (Classical.propDecidable _))) ∧ Below W.heap.size W w') := fun W x c' hW hc' hl' hx => by
    refine (blocked_any p r D x vs vf (zL c') W (by rw [zL_len]; omega) hx hok (ha.below hW) hD).mono ?_
    rintro e w' ⟨h1, h2⟩
    refine ⟨?_, h2⟩
    rw [h1]
    congr 2
    rw [zL_nat]
    have h3 := chain_p hc'
    apply decide_eq_decide.2
    exact ⟨fun h => h.2, fun h => ⟨h3, h⟩⟩
  obtain ⟨ao, ca, rfl, hrr⟩ := hr
  rw [zL_len] at hrr ⊢
  obtain ⟨g, hao, hgl, _⟩ := hrr 0 hcl
  subst hao
  have HRR : Hid (∀ j u, (ints (zL c))[j]? = some u → w.cell? ((⟨g, 0, none⟩ : Addr).add j) = some u) := fun j u hu => by
    have hj : j < c.length := by
      have := (List.getElem?_eq_some_iff.1 hu).1
      simpa [ints, zL] using this
    obtain ⟨g', e', _, h3⟩ := hrr j hj
    cases e'
    have hadd : (⟨g, 0, none⟩ : Addr).add j = ⟨g, j, none⟩ := by unfold Addr.add; split <;> simp_all
    rw [hadd, h3]
    rw [← hu]
    have hj' : j < (zL c).length := by rw [zL_len]; exact hj
    simp [ints, List.getD_eq_getElem?_getD, List.getElem?_eq_getElem hj']
  clear hrr ha ht hq hc
  go_enter Tryz.func196, Tryz.ntmps196
  go_wp2_with (at_builtin; refine wpList_append_own _ rfl _ _ 40 rfl w.heap.size 3 i0 (.int .i64 0) 1 8 Tryz.underlying40 hi hz0 hz1 hz2 rfl (by decide) _ 0 [] rfl (World.ownsRow_nil _ _ _ _) ⟨g, 0, none⟩ c.length ca (ints (zL c)) rfl ?b0 ?b1 ?b2 ?b3 ?b4 ?b5 ?_)
  case b0 => simp [ints, zL]
  case b1 => exact HRR.out
  case b2 => intro u hu; simp only [ints, List.mem_map] at hu; obtain ⟨z, _, rfl⟩ := hu; rfl
  case b3 => unfold maxLen; omega
  case b4 => omega
  case b5 => exact Nat.le_refl _
  intro v1 w1 hown1 hgr1 _
  have HO1 : Hid (w1.ownsRow w.heap.size 3 1 v1 c.length (ints (zL c))) := by
    show World.ownsRow _ _ _ _ _ _ _
    first | exact hown1 | (rw [Nat.zero_add, List.nil_append] at hown1; exact hown1)
  have HB1 : Hid (Below w.heap.size w w1) := (Below.refl _ _).grown hgr1 (Nat.le_refl _) (fun x hx => by cases hx)
  clear hown1 hgr1 HRR
  go_wp2_with fail
  go_loopw [7] (fun cv wr => ∃ c' : List Nat, c'.length ≤ 10 ∧ 0 < c'.length ∧ Hid (ChainOk (insOf r D) bh fs c') ∧ Hid (chainQ (insOf r D) bh c = blkQ (insOf r D) bh (10 - c'.length) c') ∧ Hid (wr.ownsRow w.heap.size 3 1 cv c'.length (ints (zL c'))) ∧ Hid (Below w.heap.size w wr)) (fun cv _ => 10 - sliceN cv)
  case atStart => exact ⟨c, by omega, hcl, HCH, rfl, HO1, HB1⟩
  case round =>
    clear HO1 HB1
    obtain ⟨c', hl', h0', HCO, HE, HO, HB⟩ := hrel
    obtain ⟨q, capq, curq, hcv, _, _, _⟩ := own_shape HO.out h0'
    subst hcv
    have hbs := HB.out.size
    by_cases h9 : c'.length ≤ 9
    · obtain ⟨f, hf⟩ : ∃ f, 10 - c'.length = f + 1 := ⟨9 - c'.length, by omega⟩
      have HBC := hid (HBL.out wr _ c' HB.out HCO.out hl' (by
        have h := ListR.own (zs := zL c') (by rw [zL_len]; exact HO.out)
        exact h))
      by_cases hbk : BlockedQ (insOf r D) c'
      · have hd : @decide (BlockedQ (insOf r D) c') (Classical.propDecidable _) = true := by simpa using hbk
        have HF : Hid (chainQ (insOf r D) bh c = c') := by show _ = _; rw [HE.out, hf, blkQ_stop hbk]
        rw [hd] at HBC
        clear hbk hd hf HE
        go_wp2_with fail
        refine HBC.out.mono ?_
        rintro e2 w2 ⟨rfl, hb2⟩
        have HO2 := hid (own_below HO.out hb2)
        have HB2 : Hid (Below w.heap.size w w2) := HB.out.trans (hb2.mono hbs)
        clear hb2 HBC
        go_wp2_with fail
        go_ret
        exact ⟨_, rfl, by rw [HF.out]; exact HO2.out, HB2.out⟩
      · have hd : @decide (BlockedQ (insOf r D) c') (Classical.propDecidable _) = false := by simpa using hbk
        rw [hd] at HBC
        obtain ⟨m, hm⟩ : ∃ m, c'.length = m + 1 := ⟨c'.length - 1, by omega⟩
        have hlast : c'.getLast?.getD 0 = c'.getD m 0 := by rw [last_getD HCO.out.ne, hm, Nat.add_sub_cancel]
        have hlr : c'.getD m 0 ≤ r.stops.length := HCO.out.rng _ (by rw [List.getD_eq_getElem?_getD, List.getElem?_eq_getElem (by omega)]; exact List.getElem_mem _)
        have x0 : wr.cell? ⟨q, m, none⟩ = some (.int .i64 (c'.getD m 0 : Nat)) := by
          rw [HO.out.cellAt m (by omega)]
          have hm' : m < (zL c').length := by rw [zL_len]; omega
          simp only [ints, List.getElem?_map, List.getElem?_eq_getElem hm', Option.map_some]
          rw [← zL_get, List.getD_eq_getElem?_getD, List.getElem?_eq_getElem hm', Option.getD_some]
        have lq : q < wr.heap.size := (HO.out.lt q rfl).2
        by_cases hz : c'.getD m 0 = 0
        · have HF : Hid (chainQ (insOf r D) bh c = []) := by show _ = _; rw [HE.out, hf, blkQ_home hbk (by rw [hlast]; exact hz)]
          have x1 : wr.cell? ⟨q, m, none⟩ = some (.int .i64 0) := by rw [x0, hz]; rfl
          have im : (0 : Int) ≤ (m : Int) := by omega
          have jm : (m : Int) < ((m + 1 : Nat) : Int) := by omega
          have wm : IntKind.i64.wrap (((m + 1 : Nat) : Int) - 1) = (m : Int) := by rw [i64_fits _ (by omega)]; omega
          have wm2 : IntKind.i64.wrap ((m : Int) + 1 - 1) = (m : Int) := by rw [i64_fits _ (by omega)]; omega
          rw [hm] at HO HBC ⊢
          clear hbk hd hf HE hz x0 hlast hlr
          go_wp2_with fail
          refine HBC.out.mono ?_
          rintro e2 w2 ⟨rfl, hb2⟩
          have y1 : w2.cell? ⟨q, m, none⟩ = _ := (hb2.cell (by exact lq)).trans x1
          have l2 : q < w2.heap.size := Nat.lt_of_lt_of_le lq hb2.size
          have HB2 : Hid (Below w.heap.size w w2) := HB.out.trans (hb2.mono hbs)
          clear hb2 HBC x1
          go_wp2_with go_in
          go_ret
          exact ⟨_, rfl, by rw [HF.out]; exact World.ownsRow_nil _ _ _ _, HB2.out⟩
        · obtain ⟨s, hs⟩ : ∃ s, s = c'.getD m 0 := ⟨_, rfl⟩
          rw [← hs] at hlast hlr x0 hz
          have HC2 : Hid (ChainOk (insOf r D) bh fs (c' ++ [bh s])) := by
            have h := HCO.out.snoc HTQ.out (by rw [hlast]; exact hz)
            rw [hlast] at h; exact h
          have HE2 : Hid (chainQ (insOf r D) bh c = blkQ (insOf r D) bh (10 - (c' ++ [bh s]).length) (c' ++ [bh s])) := by
            show _ = _
            rw [HE.out, hf, blkQ_more hbk (by rw [hlast]; exact hz), hlast, List.length_append, show 10 - (c'.length + [bh s].length) = f by simp; omega]
          have im : (0 : Int) ≤ (m : Int) := by omega
          have jm : (m : Int) < ((m + 1 : Nat) : Int) := by omega
          have wm : IntKind.i64.wrap (((m + 1 : Nat) : Int) - 1) = (m : Int) := by rw [i64_fits _ (by omega)]; omega
          have wm2 : IntKind.i64.wrap ((m : Int) + 1 - 1) = (m : Int) := by rw [i64_fits _ (by omega)]; omega
          have e0 : ((s : Int) == 0) = false := by simpa using hz
          have is : (0 : Int) ≤ (s : Int) := by omega
          have js : (s : Int) < 8 := by omega
          have b0 := (HTO.out.below HB.out).behind (s := s) (by omega) hlr hn7
          have lt := (HTO.out.below HB.out).lt
          have hm9 : m ≤ 8 := by omega
          rw [hm] at HO HBC ⊢
          clear hbk hd hf HE hz hlast hs
          go_wp2_with fail
          refine HBC.out.mono ?_
          rintro e2 w2 ⟨rfl, hb2⟩
          have y1 : w2.cell? ⟨q, m, none⟩ = _ := (hb2.cell (by exact lq)).trans x0
          have l2 : q < w2.heap.size := Nat.lt_of_lt_of_le lq hb2.size
          have z1 : w2.cell? ⟨t, 1 + s, none⟩ = _ := (hb2.cell (by exact lt)).trans b0
          have lt2 : t < w2.heap.size := Nat.lt_of_lt_of_le lt hb2.size
          have HB2 : Hid (Below w.heap.size w w2) := HB.out.trans (hb2.mono hbs)
          have HO2 := hid (own_below HO.out hb2)
          have hbs2 := HB2.out.size
          clear hb2 HBC x0 b0
          go_wp2_with (first
            | (at_builtin; refine wpList_append_own _ rfl _ _ 40 rfl w.heap.size 3 i0 (.int .i64 0) 1 8 Tryz.underlying40 hi hz0 hz1 hz2 rfl (by decide) _ _ _ rfl (HO2.out.alloc _) ⟨w2.heap.size, 0, none⟩ 1 1 [.int .i64 (bh s : Nat)] rfl rfl ?c1 ?c2 ?c3 ?c4 ?c5 ?_)
            | go_in)
          case c1 => exact cell_one_new _ _ _
          case c2 => intro u hu; simp at hu; subst hu; rfl
          case c3 => unfold maxLen; omega
          case c4 => omega
          case c5 => simp; omega
          intro v3 w3 hown3 hgr3 _
          have HO3 := hid hown3
          have HG3 := hid hgr3
          clear hown3 hgr3
          go_wp2
          go_roundw
          case rel =>
            refine ⟨c' ++ [bh s], by simp; omega, by simp, HC2, HE2, ?_, ?_⟩
            · show World.ownsRow _ _ _ _ _ _ _
              rw [zL_snoc, ints_append, List.length_append, hm]; exact HO3.out
            · exact (HB2.out.alloc (by omega) _).grown HG3.out (by simp; omega) (fun x hx => by have := (HO2.out.lt x hx).1; omega)
          case measure =>
            obtain ⟨q3, cap3, cur3, hv3, _, _, _⟩ := own_shape HO3.out (by omega)
            rw [hv3]
            simp [sliceN]
            omega
    · have hl10 : c'.length = 10 := by omega
      have HF : Hid (chainQ (insOf r D) bh c = []) := by show _ = _; rw [HE.out, hl10]; rfl
      rw [hl10] at HO ⊢
      clear HE
      go_wp2_with fail
      go_ret
      exact ⟨_, rfl, by rw [HF.out]; exact World.ownsRow_nil _ _ _ _, HB.out⟩
end Go.Proofs.YtebinaopncclgabGreatDoor
namespace Go.Proofs.YtebinaopncclgabGreatDoor
open Go.RowKit Go.IntWalk

theorem nbr_take {c : List Nat} {i : Nat} (h1 : 1 ≤ i) (h : i < c.length) : nbr (c.take (i + 1)) = nbr (c.take i) ++ [(c.getD (i - 1) 0, c.getD i 0)] := by
  have e1 : c.take (i + 1) = c.take i ++ [c.getD i 0] := by
    rw [List.take_succ_eq_append_getElem h, List.getD_eq_getElem?_getD, List.getElem?_eq_getElem h]; rfl
  have hne : c.take i ≠ [] := fun e => by
    have := congrArg List.length e
    rw [List.length_take, List.length_nil] at this
    omega
  have hl : (c.take i).length = i := by rw [List.length_take]; omega
  rw [e1, nbr_snoc _ _ hne, last_getD hne, hl]
  congr 3
  rw [List.getD_eq_getElem?_getD, List.getD_eq_getElem?_getD, List.getElem?_take_of_lt (by omega)]
theorem nbr_one {c : List Nat} (h : 0 < c.length) : nbr (c.take 1) = [] := by
  cases c with
  | nil => simp at h
  | cons a c => rfl
theorem free_said {n a b : Nat} {T : Nat → Nat → Int} (ha : a ≤ n) (hb : b ≤ n) : (saidZ n T (a : Int) (b : Int) = 0) ↔ freeT T (a, b) = true := by
  unfold saidZ freeT
  rw [decide_eq_true_eq]
  by_cases h : a = b
  · rw [if_neg (fun hc => by have := hc.2.2; omega)]
    constructor
    · intro h1; omega
    · intro h1; exact absurd h h1.1
  · rw [if_pos ⟨⟨by omega, by omega⟩, ⟨by omega, by omega⟩, by omega⟩]
    simp only [Int.toNat_natCast]
    exact ⟨fun h1 => ⟨h, h1⟩, fun h1 => h1.2⟩

set_option maxRecDepth 100000 in
set_option maxHeartbeats 4000000 in
theorem sfree_any (p : Nat) (r : Rd) (T : Nat → Nat → Int) (af : Option Addr) (cf n : Nat) (c : List Nat) (v : Value) (w : World) (hn : n ≤ 7) (h : ArcsAt w p 8 r T (.slice af (n + 1 : Nat) cf)) (hr : ListR w v (zL c)) (h0 : 0 < c.length) (hl : c.length ≤ 20) (hc : ∀ s ∈ c, s ≤ n) :
    Calls Tryz.prog 197 #[.pointer (some ⟨p, 0, none⟩), v] w fun e w' => e = .returned (.int .i64 (freeN T c)) ∧ Below w.heap.size w w' := by
  have HS : Hid (∀ (W : World) (x y : Int), Below w.heap.size w W → Calls Tryz.prog 146 #[.pointer (some ⟨p, 8, none⟩), .int .i64 x, .int .i64 y] W fun e w' => e = .returned (.int .i64 (saidZ n T x y)) ∧ Below W.heap.size W w') := fun W x y hW => said_any p 8 r T af cf n x y W hn (h.below hW)
  have hpl := h.lt
  obtain ⟨ao, ca, rfl, hrr⟩ := hr
  rw [zL_len] at hrr ⊢
  have HR : Hid (∀ j, j < c.length → ∃ g, ao = some ⟨g, 0, none⟩ ∧ g < w.heap.size ∧ w.cell? ⟨g, j, none⟩ = some (.int .i64 (c.getD j 0 : Nat))) := fun j hj => by
    obtain ⟨g, h1, h2, h3⟩ := hrr j hj
    exact ⟨g, h1, h2, by rw [h3, zL_get]⟩
  have HC : Hid (∀ j, j < c.length → c.getD j 0 ≤ n) := fun j hj => hc _ (by rw [List.getD_eq_getElem?_getD, List.getElem?_eq_getElem hj]; exact List.getElem_mem _)
  clear hrr hc h
  go_enter Tryz.func197, Tryz.ntmps197
  go_wp2_with fail
  go_loopw [5, 6] (fun cv i wr => ∃ k q : Nat, 1 ≤ k ∧ k ≤ c.length ∧ i = .int .i64 k ∧ cv = .int .i64 q ∧ q ≤ k ∧ Hid (q = freeN T (c.take k)) ∧ Hid (Below w.heap.size w wr)) (fun _ i _ => c.length - (intOf i).toNat)
  case atStart => exact ⟨1, 0, Nat.le_refl _, h0, rfl, rfl, by omega, by show _ = _; unfold freeN; rw [nbr_one h0]; rfl, Below.refl _ _⟩
  case round =>
    obtain ⟨k, q, hk1, hk, rfl, rfl, hfk, HQ, HB⟩ := hrel
    obtain ⟨m, rfl⟩ : ∃ m, k = m + 1 := ⟨k - 1, by omega⟩
    by_cases hlt : m + 1 < c.length
    · obtain ⟨g, hao, hgl, x1⟩ := HR.out (m + 1) hlt
      obtain ⟨g', hao', _, x0⟩ := HR.out m (by omega)
      subst hao
      cases hao'
      have y1 : wr.cell? ⟨g, m + 1, none⟩ = _ := (HB.out.cell (by exact hgl)).trans x1
      have y0 : wr.cell? ⟨g, m, none⟩ = _ := (HB.out.cell (by exact hgl)).trans x0
      have lg : g < wr.heap.size := Nat.lt_of_lt_of_le hgl HB.out.size
      have lp : p < wr.heap.size := Nat.lt_of_lt_of_le hpl HB.out.size
      have HN := hid (nbr_take (c := c) (by omega) hlt)
      rw [Nat.add_sub_cancel] at HN
      have hc1 := HC.out (m + 1) hlt
      have hc0 := HC.out m (by omega)
      have HFS := hid (free_said (T := T) hc0 hc1)
      have HFC : Hid (freeN T (c.take (m + 1 + 1)) = freeN T (c.take (m + 1)) + (if freeT T (c.getD m 0, c.getD (m + 1) 0) = true then 1 else 0)) := by
        show _ = _
        unfold freeN
        rw [HN.out, List.filter_append, List.length_append]
        congr 1
        by_cases hf : freeT T (c.getD m 0, c.getD (m + 1) 0) = true
        · rw [if_pos hf, List.filter_cons_of_pos hf]; rfl
        · rw [if_neg hf, List.filter_cons_of_neg hf]; rfl
      generalize c.getD m 0 = a at *
      generalize c.getD (m + 1) 0 = b at *
      have HCW : Hid (∀ W, Below wr.heap.size wr W → Calls Tryz.prog 146 #[.pointer (some ⟨p, 8, none⟩), .int .i64 (a : Nat), .int .i64 (b : Nat)] W fun e w' => e = .returned (.int .i64 (saidZ n T (a : Nat) (b : Nat))) ∧ w'.cell? ⟨g, m, none⟩ = some (.int .i64 (a : Nat)) ∧ w'.cell? ⟨g, m + 1, none⟩ = some (.int .i64 (b : Nat)) ∧ Hid (Below w.heap.size w w')) := fun W hW => by
        refine (HS.out W a b (HB.out.trans (hW.mono HB.out.size))).mono ?_
        rintro e w' ⟨h1, h2⟩
        have h3 : Below wr.heap.size wr w' := hW.trans (h2.mono hW.size)
        exact ⟨h1, (h3.cell (by exact lg)).trans y0, (h3.cell (by exact lg)).trans y1, HB.out.trans (h3.mono HB.out.size)⟩
      have ia : (0 : Int) ≤ (m : Int) := by omega
      have ja : (m : Int) < (c.length : Int) := by omega
      have jb : ((m + 1 : Nat) : Int) < (c.length : Int) := by omega
      have wz : IntKind.i64.wrap (((m + 1 : Nat) : Int) - 1) = (m : Int) := by rw [i64_fits _ (by omega)]; omega
      have ib : (0 : Int) ≤ (m : Int) + 1 := by omega
      have jb2 : (m : Int) + 1 < (c.length : Int) := by omega
      have wz2 : IntKind.i64.wrap ((m : Int) + 1 - 1) = (m : Int) := by rw [i64_fits _ (by omega)]; omega
      have tn : ((m : Int) + 1).toNat = m + 1 := by omega
      have wz3 : IntKind.i64.wrap (m : Int) = (m : Int) := i64_fits _ (by omega)
      generalize saidZ n T (a : Nat) (b : Nat) = sd at *
      clear x0 x1 HN HR HC HS
      by_cases hf : freeT T (a, b) = true
      · have hsd := HFS.out.2 hf
        have b1 : (sd == 0) = true := by simp [hsd]
        rw [if_pos hf] at HFC
        clear hf HFS hsd
        go_wp2_with fail
        go_region_held3 (fun w' => w'.cell? ⟨g, m, none⟩ = some (.int .i64 (a : Nat)) ∧ w'.cell? ⟨g, m + 1, none⟩ = some (.int .i64 (b : Nat))) (go_keep) (first | (go_at_call 146; refine (HCW.out _ (by first | exact Below.refl _ _ | exact (Below.refl _ _).drew)).mono ?_; rintro e3 w3 ⟨rfl, z0, z1, HB3⟩))
        go_wp2
        refine ⟨⟨m + 1 + 1, q + 1, by omega, by omega, by go_num, by go_num, by omega, by show _ = _; rw [HFC.out, HQ.out], HB3⟩, by simp [intOf]; omega⟩
      · have hsd : sd ≠ 0 := fun e => hf (HFS.out.1 e)
        have b1 : (sd == 0) = false := by simpa using hsd
        rw [if_neg hf] at HFC
        clear hf HFS hsd
        go_wp2_with fail
        go_region_held3 (fun w' => w'.cell? ⟨g, m, none⟩ = some (.int .i64 (a : Nat)) ∧ w'.cell? ⟨g, m + 1, none⟩ = some (.int .i64 (b : Nat))) (go_keep) (first | (go_at_call 146; refine (HCW.out _ (by first | exact Below.refl _ _ | exact (Below.refl _ _).drew)).mono ?_; rintro e3 w3 ⟨rfl, z0, z1, HB3⟩))
        go_wp2
        refine ⟨⟨m + 1 + 1, q, by omega, by omega, by go_num, rfl, by omega, by show _ = _; rw [HFC.out, HQ.out]; rfl, HB3⟩, by simp [intOf]; omega⟩
    · have HF : Hid (freeN T c = q) := by show _ = _; rw [HQ.out, List.take_of_length_le (by omega)]
      go_wp2_with fail
      go_ret
      refine ⟨?_, HB.out⟩
      rw [HF.out]; rfl

theorem lit_own1 (w : World) (x : Int) : (w.alloc (.cells #[.int .i64 x] 3)).ownsRow w.heap.size 3 1 (.slice (some ⟨w.heap.size, 0, none⟩) 1 1) 1 (ints [x]) := by
  have := World.ownsRow_lit (base := w.heap.size) (e := 3) (size := 1) w #[.int .i64 x] 1 (by simp) (by unfold maxLen; omega) rfl
  simpa [ints] using this
theorem lit_own2 (w : World) (x y : Int) : (w.alloc (.cells #[.int .i64 x, .int .i64 y] 3)).ownsRow w.heap.size 3 1 (.slice (some ⟨w.heap.size, 0, none⟩) 2 2) 2 (ints [x, y]) := by
  have := World.ownsRow_lit (base := w.heap.size) (e := 3) (size := 1) w #[.int .i64 x, .int .i64 y] 2 (by simp) (by unfold maxLen; omega) rfl
  simpa [ints] using this
theorem part_none {T : Nat → Nat → Int} {c : List Nat} (h : (nbr c).find? (freeT T) = none) : partQ T c = (4, zL c) := by unfold partQ; rw [h]; rfl
theorem part_some {T : Nat → Nat → Int} {c : List Nat} {p : Nat × Nat} (h : (nbr c).find? (freeT T) = some p) : partQ T c = (1, [(p.1 : Int), (p.2 : Int)]) := by unfold partQ; rw [h]
theorem nbr_cut {c : List Nat} {i : Nat} (h1 : 1 ≤ i) (h : i ≤ c.length) : ∃ l, nbr c = nbr (c.take i) ++ l := by
  obtain ⟨d, hd⟩ : ∃ d, c.length = i + d := ⟨c.length - i, by omega⟩
  induction d generalizing i with
  | zero => exact ⟨[], by rw [List.take_of_length_le (by omega), List.append_nil]⟩
  | succ d ih =>
    obtain ⟨l, hl⟩ := ih (i := i + 1) (by omega) (by omega) (by omega)
    exact ⟨_, by rw [hl, nbr_take h1 (by omega), List.append_assoc]⟩

set_option maxRecDepth 100000 in
set_option maxHeartbeats 4000000 in
theorem spart_any (p B : Nat) (r : Rd) (T : Nat → Nat → Int) (af : Option Addr) (cf n : Nat) (c : List Nat) (v : Value) (w : World) (hn : n ≤ 7) (h : ArcsAt w p 8 r T (.slice af (n + 1 : Nat) cf)) (ho : w.ownsRow B 3 1 v c.length (ints (zL c))) (hB : B ≤ w.heap.size) (h0 : 0 < c.length) (hl : c.length ≤ 20) (hc : ∀ s ∈ c, s ≤ n) :
    Calls Tryz.prog 145 #[.pointer (some ⟨p, 0, none⟩), v] w fun e w' => ∃ x, e = .returned (.agg #[.int .i64 (partQ T c).1, x]) ∧ w'.ownsRow B 3 1 x (partQ T c).2.length (ints (partQ T c).2) ∧ Below w.heap.size w w' := by
  have HO := hid ho
  have hr : ListR w v (zL c) := ListR.own (by rw [zL_len]; exact ho)
  clear ho
  have HS : Hid (∀ (W : World) (x y : Int), Below w.heap.size w W → Calls Tryz.prog 146 #[.pointer (some ⟨p, 8, none⟩), .int .i64 x, .int .i64 y] W fun e w' => e = .returned (.int .i64 (saidZ n T x y)) ∧ Below W.heap.size W w') := fun W x y hW => said_any p 8 r T af cf n x y W hn (h.below hW)
  have hpl := h.lt
  obtain ⟨ao, ca, rfl, hrr⟩ := hr
  rw [zL_len] at hrr ⊢
  have HR : Hid (∀ j, j < c.length → ∃ g, ao = some ⟨g, 0, none⟩ ∧ g < w.heap.size ∧ w.cell? ⟨g, j, none⟩ = some (.int .i64 (c.getD j 0 : Nat))) := fun j hj => by
    obtain ⟨g, h1, h2, h3⟩ := hrr j hj
    exact ⟨g, h1, h2, by rw [h3, zL_get]⟩
  have HC : Hid (∀ j, j < c.length → c.getD j 0 ≤ n) := fun j hj => hc _ (by rw [List.getD_eq_getElem?_getD, List.getElem?_eq_getElem hj]; exact List.getElem_mem _)
  clear hrr hc h
  obtain ⟨W0, hW0⟩ : ∃ W0, W0 = w.alloc (.cells #[.int .i64 0, .slice none 0 0] 76) := ⟨_, rfl⟩
  have HBW : Hid (Below w.heap.size w W0) := by show Below _ _ _; rw [hW0]; exact below1 w _
  have hbx : W0.heap[w.heap.size]? = some (.cells #[.int .i64 0, .slice none 0 0] 76 (0, 0)) := by rw [hW0]; exact heap_alloc_new w _
  have hwl : w.heap.size < W0.heap.size := (Array.getElem?_eq_some_iff.1 hbx).1
  have HBX := hid hbx
  have HWQ := hid hW0
  clear hW0 hbx
  go_enter Tryz.func145, Tryz.ntmps145
  go_wp2_with fail
  go_loopw [5] (fun i wr => ∃ k : Nat, 1 ≤ k ∧ k ≤ c.length ∧ i = .int .i64 k ∧ Hid ((nbr (c.take k)).find? (freeT T) = none) ∧ Hid (Below W0.heap.size W0 wr)) (fun i _ => c.length - (intOf i).toNat)
  case atStart => exact ⟨1, Nat.le_refl _, h0, rfl, by show _ = _; rw [nbr_one h0]; rfl, by show Below _ _ _; rw [HWQ.out]; exact Below.refl _ _⟩
  case round =>
    obtain ⟨k, hk1, hk, rfl, HQ, HB0⟩ := hrel
    have HB : Hid (Below w.heap.size w wr) := HBW.out.trans (HB0.out.mono HBW.out.size)
    obtain ⟨m, rfl⟩ : ∃ m, k = m + 1 := ⟨k - 1, by omega⟩
    by_cases hlt : m + 1 < c.length
    · obtain ⟨g, hao, hgl, x1⟩ := HR.out (m + 1) hlt
      obtain ⟨g', hao', _, x0⟩ := HR.out m (by omega)
      subst hao
      cases hao'
      have y1 : wr.cell? ⟨g, m + 1, none⟩ = _ := (HB.out.cell (by exact hgl)).trans x1
      have y0 : wr.cell? ⟨g, m, none⟩ = _ := (HB.out.cell (by exact hgl)).trans x0
      have lg : g < wr.heap.size := Nat.lt_of_lt_of_le hgl HB.out.size
      have lp : p < wr.heap.size := Nat.lt_of_lt_of_le hpl HB.out.size
      have HN := hid (nbr_take (c := c) (by omega) hlt)
      rw [Nat.add_sub_cancel] at HN
      have hc1 := HC.out (m + 1) hlt
      have hc0 := HC.out m (by omega)
      have HFS := hid (free_said (T := T) hc0 hc1)
      have HFC : Hid ((nbr (c.take (m + 1 + 1))).find? (freeT T) = if freeT T (c.getD m 0, c.getD (m + 1) 0) = true then some (c.getD m 0, c.getD (m + 1) 0) else none) := by
        show _ = _
        rw [HN.out, List.find?_append, HQ.out]
        by_cases hf : freeT T (c.getD m 0, c.getD (m + 1) 0) = true
        · rw [if_pos hf, List.find?_cons_of_pos hf]; rfl
        · rw [if_neg hf, List.find?_cons_of_neg hf]; rfl
      have HCT := hid (nbr_cut (c := c) (i := m + 1 + 1) (by omega) (by omega))
      generalize c.getD m 0 = a at *
      generalize c.getD (m + 1) 0 = b at *
      have HCW : Hid (∀ W, Below wr.heap.size wr W → Calls Tryz.prog 146 #[.pointer (some ⟨p, 8, none⟩), .int .i64 (a : Nat), .int .i64 (b : Nat)] W fun e w' => e = .returned (.int .i64 (saidZ n T (a : Nat) (b : Nat))) ∧ w'.cell? ⟨g, m, none⟩ = some (.int .i64 (a : Nat)) ∧ w'.cell? ⟨g, m + 1, none⟩ = some (.int .i64 (b : Nat)) ∧ Hid (Below W0.heap.size W0 w')) := fun W hW => by
        refine (HS.out W a b (HB.out.trans (hW.mono HB.out.size))).mono ?_
        rintro e w' ⟨h1, h2⟩
        have h3 : Below wr.heap.size wr w' := hW.trans (h2.mono hW.size)
        exact ⟨h1, (h3.cell (by exact lg)).trans y0, (h3.cell (by exact lg)).trans y1, HB0.out.trans (h3.mono HB0.out.size)⟩
      have ia : (0 : Int) ≤ (m : Int) := by omega
      have ja : (m : Int) < (c.length : Int) := by omega
      have jb : ((m + 1 : Nat) : Int) < (c.length : Int) := by omega
      have wz : IntKind.i64.wrap (((m + 1 : Nat) : Int) - 1) = (m : Int) := by rw [i64_fits _ (by omega)]; omega
      have ib : (0 : Int) ≤ (m : Int) + 1 := by omega
      have jb2 : (m : Int) + 1 < (c.length : Int) := by omega
      have wz2 : IntKind.i64.wrap ((m : Int) + 1 - 1) = (m : Int) := by rw [i64_fits _ (by omega)]; omega
      have tn : ((m : Int) + 1).toNat = m + 1 := by omega
      have wz3 : IntKind.i64.wrap (m : Int) = (m : Int) := i64_fits _ (by omega)
      generalize saidZ n T (a : Nat) (b : Nat) = sd at *
      clear x0 x1 HN HR HC HS
      by_cases hf : freeT T (a, b) = true
      · have hsd := HFS.out.2 hf
        have b1 : (sd == 0) = true := by simp [hsd]
        rw [if_pos hf] at HFC
        have HP : Hid (partQ T c = (1, [(a : Int), (b : Int)])) := by
          obtain ⟨l, hl⟩ := HCT.out
          exact part_some (by rw [hl, List.find?_append, HFC.out]; rfl)
        clear hf HFS hsd HFC HCT
        go_wp2_with fail
        go_region_held3 (fun w' => w'.cell? ⟨g, m, none⟩ = some (.int .i64 (a : Nat)) ∧ w'.cell? ⟨g, m + 1, none⟩ = some (.int .i64 (b : Nat))) (go_keep) (first | (go_at_call 146; refine (HCW.out _ (by first | exact Below.refl _ _ | exact (Below.refl _ _).drew)).mono ?_; rintro e3 w3 ⟨rfl, z0, z1, HB3⟩))
        have lg3 : g < w3.heap.size := by have := HB3.out.size; omega
        have hb3 := (HB3.out.block _ hwl).trans HBX.out
        have lw3 : w.heap.size < w3.heap.size := (Array.getElem?_eq_some_iff.1 hb3).1
        have r0 : w3.cell? ⟨w.heap.size, 0, none⟩ = _ := cell_of_row w3 _ 0 _ _ _ hb3
        have r1 : w3.cell? ⟨w.heap.size, 1, none⟩ = _ := cell_of_row w3 _ 1 _ _ _ hb3
        have n1 : w3.heap.size ≠ g := by omega
        have n2 : w.heap.size ≠ g := by omega
        have n3 : w3.heap.size ≠ w.heap.size := by omega
        have n4 : g ≠ w.heap.size := by omega
        have n5 : g ≠ w3.heap.size := by omega
        have n6 : w.heap.size ≠ w3.heap.size := by omega
        have f0 := frozen_of_row w3 w.heap.size 0 _ _ hb3
        have f1 := frozen_of_row w3 w.heap.size 1 _ _ hb3
        go_wp2_with fail
        go_region_held3 (fun w' => w'.cell? ⟨g, m, none⟩ = some (.int .i64 (a : Nat)) ∧ w'.cell? ⟨g, m + 1, none⟩ = some (.int .i64 (b : Nat))) (go_keep) (fail)
        go_wp2_with fail
        refine bodyPost_ret (v := .agg #[.int .i64 1, .slice (some ⟨w3.heap.size, 0, none⟩) 2 2]) (by simp [results, Tryz.results145, go_sem, r0, r1, lw3]) rfl ?_
        obtain ⟨w4, hw4⟩ : ∃ w4, w4 = (w3.setCell ⟨w.heap.size, 0, none⟩ (.int .i64 1)).setCell ⟨w.heap.size, 1, none⟩ (.slice (some ⟨w3.heap.size, 0, none⟩) 2 2) := ⟨_, rfl⟩
        have h4z : w4.heap.size = w3.heap.size := by rw [hw4]; simp
        have hlo := lit_own2 w4 a b
        rw [h4z] at hlo
        have hb4 : Below w.heap.size w w4 := by
          rw [hw4]
          exact ((HBW.out.trans (HB3.out.mono HBW.out.size)).setCell (by exact Nat.le_refl _) _).setCell (by exact Nat.le_refl _) _
        rw [← hw4]
        refine ⟨_, by rw [HP.out], ?_, (hb4.alloc (by omega) _).drew⟩
        rw [HP.out]
        exact own_heap (own_base hlo (by omega)) rfl
      · have hsd : sd ≠ 0 := fun e => hf (HFS.out.1 e)
        have b1 : (sd == 0) = false := by simpa using hsd
        rw [if_neg hf] at HFC
        clear hf HFS hsd
        go_wp2_with fail
        go_region_held3 (fun w' => w'.cell? ⟨g, m, none⟩ = some (.int .i64 (a : Nat)) ∧ w'.cell? ⟨g, m + 1, none⟩ = some (.int .i64 (b : Nat))) (go_keep) (first | (go_at_call 146; refine (HCW.out _ (by first | exact Below.refl _ _ | exact (Below.refl _ _).drew)).mono ?_; rintro e3 w3 ⟨rfl, z0, z1, HB3⟩))
        go_wp2
        refine ⟨⟨m + 1 + 1, by omega, by omega, by go_num, HFC, HB3⟩, by simp [intOf]; omega⟩
    · have HP : Hid (partQ T c = (4, zL c)) := part_none (by have h := HQ.out; rw [List.take_of_length_le (by omega)] at h; exact h)
      rw [zL_len] at HO
      have HO2 := hid (own_below HO.out (HB.out))
      have hb3 := (HB0.out.block _ hwl).trans HBX.out
      have lw3 : w.heap.size < wr.heap.size := (Array.getElem?_eq_some_iff.1 hb3).1
      have r0 : wr.cell? ⟨w.heap.size, 0, none⟩ = _ := cell_of_row wr _ 0 _ _ _ hb3
      have r1 : wr.cell? ⟨w.heap.size, 1, none⟩ = _ := cell_of_row wr _ 1 _ _ _ hb3
      have f0 := frozen_of_row wr w.heap.size 0 _ _ hb3
      have f1 := frozen_of_row wr w.heap.size 1 _ _ hb3
      go_wp2_with fail
      refine bodyPost_ret (v := .agg #[.int .i64 4, .slice ao c.length ca]) (by simp [results, Tryz.results145, go_sem, r0, r1]) rfl ?_
      refine ⟨.slice ao c.length ca, by rw [HP.out], ?_, (HB.out.setCell (by exact Nat.le_refl _) _).setCell (by exact Nat.le_refl _) _⟩
      rw [HP.out]
      show World.ownsRow _ _ _ _ _ (zL c).length (ints (zL c))
      rw [zL_len]
      have hne : (Value.slice ao c.length ca).ownBlock ≠ some w.heap.size := fun h => by have := (HO2.out.lt _ h).2; have := (HO.out.lt _ h).2; omega
      exact ownsRow_setCell_other (ownsRow_setCell_other HO2.out hne _) hne _
end Go.Proofs.YtebinaopncclgabGreatDoor
namespace Go.Proofs.YtebinaopncclgabGreatDoor
open Go.RowKit Go.IntWalk

theorem begs_one (k : Nat) : ((List.range (k + 1)).map fun i => zL [i + 1]) = ((List.range k).map fun i => zL [i + 1]) ++ [zL [k + 1]] := by rw [List.range_succ, List.map_append]; rfl
theorem begs_two {fs : List Nat} {k : Nat} (h : k < fs.length) : ((fs.take (k + 1)).map fun f => zL [0, f]) = ((fs.take k).map fun f => zL [0, f]) ++ [zL [0, fs.getD k 0]] := by
  rw [List.take_succ_eq_append_getElem h, List.map_append, List.getD_eq_getElem?_getD, List.getElem?_eq_getElem h]; rfl
theorem begs_all (n : Nat) (fs : List Nat) : (begsQ n fs).map zL = ((List.range n).map fun i => zL [i + 1]) ++ (fs.map fun f => zL [0, f]) := by
  unfold begsQ
  rw [List.map_append, List.map_map, List.map_map]; rfl
set_option maxRecDepth 100000 in
set_option maxHeartbeats 4000000 in
theorem begs_any (t n : Nat) (bh : Nat → Nat) (fs : List Nat) (w : World) (hn : n ≤ 7) (hf : fs.length ≤ 3) (ht : TourO w t n bh fs) :
    Calls Tryz.prog 195 #[.pointer (some ⟨t, 0, none⟩)] w fun e w' => ∃ v vs, e = .returned v ∧ Rts w' w.heap.size w'.heap.size v ((begsQ n fs).map zL) vs ∧ Below w.heap.size w w' := by
  obtain ⟨j0, hj, hy0, hy1, hy2⟩ := info_parts Tryz.infoInts
  have HTO := hid ht
  clear ht
  go_enter Tryz.func195, Tryz.ntmps195
  go_wp2_with fail
  go_loopw [3, 4] (fun lv i wr => ∃ (k : Nat) (vs : List Value), k ≤ n ∧ i = .int .i64 (k + 1 : Nat) ∧ Hid (Rts wr w.heap.size wr.heap.size lv ((List.range k).map fun i => zL [i + 1]) vs) ∧ Hid (Below w.heap.size w wr)) (fun _ i _ => n + 1 - (intOf i).toNat)
  case atStart => exact ⟨0, [], Nat.zero_le _, rfl, Rts.nil _ _ _, Below.refl _ _⟩
  case round =>
    obtain ⟨k, vs, hk, rfl, HL, HB⟩ := hrel
    have hlv := HL.out.len
    have hlv2 : vs.length ≤ 7 := by rw [hlv]; simp; omega
    clear hlv
    obtain ⟨al, cl, rfl, _, _⟩ := own_val HL.out.own
    have hbs := HB.out.size
    obtain ⟨vf, h1, h2⟩ := (HTO.out.below HB.out).at_
    have c0 := h1.c0
    have c9 := h1.c9
    have lt := h1.lt
    have HV := hid h2
    by_cases hlt : k < n
    · have HT := hid (begs_one k)
      clear h1 h2
      go_wp2_with (first
        | (at_builtin; refine wpList_append_own _ rfl _ _ 31 rfl w.heap.size 40 j0 (.slice none 0 0) 1 24 Tryz.underlying31 hj hy0 hy1 hy2 rfl (by decide) _ _ _ rfl ((own_below (HL.out.own) (below1 wr (.cells #[.int .i64 ((k : Int) + 1)] 3))).alloc _) ⟨wr.heap.size + 1, 0, none⟩ 1 1 [.slice (some ⟨wr.heap.size, 0, none⟩) 1 1] rfl rfl ?d1 ?d2 ?d3 ?d4 ?d5 ?_)
        | go_in)
      case d1 => exact news_b (w := wr.alloc _) rfl rfl (by simp)
      case d2 => intro u hu; simp at hu; subst hu; rfl
      case d3 => unfold maxLen; omega
      case d4 => omega
      case d5 => simp; omega
      intro v2 w2 hown2 hgr2 _
      have hL1 := HL.out.below (below1 wr (.cells #[.int .i64 ((k : Int) + 1)] 3)) (U' := (wr.alloc (.cells #[.int .i64 ((k : Int) + 1)] 3)).heap.size) (by simp)
      have HL2 : Hid (Rts w2 w.heap.size w2.heap.size v2 (((List.range k).map fun i => zL [i + 1]) ++ [zL [k + 1]]) (vs ++ [.slice (some ⟨wr.heap.size, 0, none⟩) 1 1])) :=
        hL1.push (zs := zL [k + 1]) (lit_own1 wr ((k : Int) + 1)) (by simp [zL]) (by omega) (below1 _ _) hgr2 hown2
      have HB2 : Hid (Below w.heap.size w w2) := ((HB.out.alloc (by omega) _).alloc (by simp; omega) _).grown hgr2 (by simp; omega) (fun x hx => (HL.out.own.lt x hx).1)
      clear hown2 hgr2 hL1
      go_wp2
      go_roundw
      case rel => exact ⟨k + 1, _, by omega, by go_num, by show Rts _ _ _ _ _ _; rw [HT.out]; exact HL2.out, HB2⟩
      case measure => simp [intOf]; omega
    · have hkn : k = n := by omega
      have HL1 : Hid (Rts wr w.heap.size wr.heap.size (.slice al vs.length cl) (((List.range n).map fun i => zL [i + 1]) ++ ((fs.take 0).map fun f => zL [0, f])) vs) := by
        show Rts _ _ _ _ _ _
        rw [← hkn]; simpa using HL.out
      have HB1 := hid HB.out
      obtain ⟨w1, hw1⟩ : ∃ w1, w1 = wr := ⟨_, rfl⟩
      rw [← hw1] at HL1 HB1
      obtain ⟨m, hm⟩ : ∃ m, m = k + 1 := ⟨_, rfl⟩
      have hmn : ¬ m ≤ n := by omega
      rw [← hm]
      clear h1 h2 HL HB c9 HV hkn hk hm hlt
      go_wp2_with fail
      rw [← hw1]
      go_loopw [3, 5] (fun lv i wr => ∃ (k : Nat) (vs : List Value), k ≤ fs.length ∧ i = .int .i64 k ∧ Hid (Rts wr w.heap.size wr.heap.size lv (((List.range n).map fun i => zL [i + 1]) ++ ((fs.take k).map fun f => zL [0, f])) vs) ∧ Hid (Below w.heap.size w wr)) (fun _ i _ => fs.length - (intOf i).toNat)
      case atStart => exact ⟨0, vs, Nat.zero_le _, rfl, HL1, HB1⟩
      case round =>
        clear HL1 HB1
        obtain ⟨k, vs, hk, rfl, HL, HB⟩ := hrel
        have hlv := HL.out.len
        have hlv2 : vs.length ≤ 10 := by rw [hlv]; simp; omega
        clear hlv
        obtain ⟨al, cl, rfl, _, _⟩ := own_val HL.out.own
        have hbs := HB.out.size
        obtain ⟨vf, h1, h2⟩ := (HTO.out.below HB.out).at_
        have c9 := h1.c9
        have lt := h1.lt
        have HV := hid h2
        obtain ⟨av, cv, hvf, _, _⟩ := own_val h2
        subst hvf
        clear h1 h2
        by_cases hlt : k < fs.length
        · obtain ⟨q, capq, curq, hcv, _, _, _⟩ := own_shape HV.out (by omega)
          cases hcv
          have x0 : wr.cell? ⟨q, k, none⟩ = some (.int .i64 (fs.getD k 0 : Nat)) := by
            rw [HV.out.cellAt k (by omega)]
            have hm' : k < (zL fs).length := by rw [zL_len]; omega
            simp only [ints, List.getElem?_map, List.getElem?_eq_getElem hm', Option.map_some]
            rw [← zL_get, List.getD_eq_getElem?_getD, List.getElem?_eq_getElem hm', Option.getD_some]
          have lq : q < wr.heap.size := (HV.out.lt q rfl).2
          have HT := hid (begs_two hlt)
          generalize fs.getD k 0 = f at *
          have ik : (0 : Int) ≤ (k : Int) := by omega
          have jk : (k : Int) < (fs.length : Int) := by omega
          go_wp2_with (first
            | (at_builtin; refine wpList_append_own _ rfl _ _ 31 rfl w.heap.size 40 j0 (.slice none 0 0) 1 24 Tryz.underlying31 hj hy0 hy1 hy2 rfl (by decide) _ _ _ rfl ((own_below (HL.out.own) (below1 wr (.cells #[.int .i64 0, .int .i64 (f : Nat)] 3))).alloc _) ⟨wr.heap.size + 1, 0, none⟩ 1 1 [.slice (some ⟨wr.heap.size, 0, none⟩) 2 2] rfl rfl ?d1 ?d2 ?d3 ?d4 ?d5 ?_)
            | go_in)
          case d1 => exact news_b (w := wr.alloc _) rfl rfl (by simp)
          case d2 => intro u hu; simp at hu; subst hu; rfl
          case d3 => unfold maxLen; omega
          case d4 => omega
          case d5 => simp; omega
          intro v2 w2 hown2 hgr2 _
          have hL1 := HL.out.below (below1 wr (.cells #[.int .i64 0, .int .i64 (f : Nat)] 3)) (U' := (wr.alloc (.cells #[.int .i64 0, .int .i64 (f : Nat)] 3)).heap.size) (by simp)
          have HL2 : Hid (Rts w2 w.heap.size w2.heap.size v2 ((((List.range n).map fun i => zL [i + 1]) ++ ((fs.take k).map fun f => zL [0, f])) ++ [zL [0, f]]) (vs ++ [.slice (some ⟨wr.heap.size, 0, none⟩) 2 2])) :=
            hL1.push (zs := zL [0, f]) (lit_own2 wr 0 (f : Nat)) (by simp [zL]) (by omega) (below1 _ _) hgr2 hown2
          have HB2 : Hid (Below w.heap.size w w2) := ((HB.out.alloc (by omega) _).alloc (by simp; omega) _).grown hgr2 (by simp; omega) (fun x hx => (HL.out.own.lt x hx).1)
          clear hown2 hgr2 hL1
          go_wp2
          go_roundw
          case rel => exact ⟨k + 1, _, by omega, by go_num, by show Rts _ _ _ _ _ _; rw [HT.out, ← List.append_assoc]; exact HL2.out, HB2⟩
          case measure => simp [intOf]; omega
        · have HF : Hid ((begsQ n fs).map zL = ((List.range n).map fun i => zL [i + 1]) ++ ((fs.take k).map fun f => zL [0, f])) := by show _ = _; rw [begs_all, List.take_of_length_le (by omega)]
          go_wp2_with fail
          go_ret
          exact ⟨_, vs, rfl, by rw [HF.out]; exact HL.out, HB.out⟩
end Go.Proofs.YtebinaopncclgabGreatDoor
namespace Go.Proofs.YtebinaopncclgabGreatDoor
open Go.RowKit Go.IntWalk

theorem weak_take {I : Ins} {T : Nat → Nat → Int} {bh : Nat → Nat} {l : List (List Nat)} {k : Nat} (h : k < l.length) : weakG I T bh (l.take (k + 1)) = weakS T (weakG I T bh (l.take k)) (chainQ I bh l[k]) := by
  unfold weakG
  rw [List.take_succ_eq_append_getElem h, List.map_append, List.foldl_append]; rfl
theorem free_le (T : Nat → Nat → Int) (c : List Nat) : freeN T c ≤ c.length := by
  unfold freeN
  have h1 := List.length_filter_le (freeT T) (nbr c)
  have h2 : (nbr c).length ≤ c.length := by
    induction c with
    | nil => simp [nbr]
    | cons a c ih =>
      cases c with
      | nil => simp [nbr]
      | cons b c => simp [nbr] at ih ⊢; exact ih (List.length_filter_le _ _)
  omega
theorem chain_len {I : Ins} {bh : Nat → Nat} {fs c : List Nat} (ht : TourQ I bh fs) (hc : ChainOk I bh fs c) (hl : c.length ≤ 2) (hne : chainQ I bh c ≠ []) : ChOk I bh fs (chainQ I bh c) := by
  obtain ⟨h1, h2, h3⟩ := blk_some ht (10 - c.length) c hc (by omega) hne
  exact ⟨h1, h2, h3⟩
/- what is known of the best so far -/
def WeakOk (I : Ins) (st : List Nat × Nat) : Prop := st.2 ≤ 20 ∧ (∀ s ∈ st.1, s ≤ I.n) ∧ st.1.length ≤ 9
theorem weak_known {I : Ins} {T : Nat → Nat → Int} {bh : Nat → Nat} {fs : List Nat} (ht : TourQ I bh fs) : ∀ (l : List (List Nat)), (∀ c ∈ l, c ∈ begsQ I.n fs) → ∀ k, k ≤ l.length → WeakOk I (weakG I T bh (l.take k)) := by
  intro l hl k
  induction k with
  | zero => intro _; exact ⟨by simp [weakG], by simp [weakG], by simp [weakG]⟩
  | succ k ih =>
    intro hk
    have h1 := ih (by omega)
    rw [weak_take (by omega)]
    have hm := hl _ (List.getElem_mem (show k < l.length by omega))
    obtain ⟨k1, k2, k3⟩ := begs_ok ht hm
    unfold weakS
    by_cases hne : chainQ I bh l[k] = []
    · rw [if_pos hne]; exact h1
    · rw [if_neg hne]
      have hc := chain_len ht k1 k2 hne
      split
      · exact ⟨by have := free_le T (chainQ I bh l[k]); have := hc.len; show freeN T _ ≤ 20; omega, hc.ok.rng, hc.len⟩
      · exact h1

set_option maxRecDepth 100000 in
set_option maxHeartbeats 4000000 in
theorem sweak_any (p t : Nat) (r : Rd) (D T : Nat → Nat → Int) (bh : Nat → Nat) (fs : List Nat) (vs vf : Value) (af : Option Addr) (cf : Nat) (w : World) (hok : RdOk r) (ha : AreaAt w p r D vs vf) (hA : ArcsAt w p 8 r T (.slice af (r.stops.length + 1 : Nat) cf)) (hD : ∀ a b, a < r.stops.length + 1 → b < r.stops.length + 1 → -1 ≤ D a b ∧ D a b ≤ 40960000)
    (ht : TourO w t r.stops.length bh fs) (hq : TourQ (insOf r D) bh fs) (hf3 : fs.length ≤ 3) :
    Calls Tryz.prog 144 #[.pointer (some ⟨p, 0, none⟩), .pointer (some ⟨t, 0, none⟩)] w fun e w' => ∃ x, e = .returned x ∧ w'.ownsRow w.heap.size 3 1 x (weakQ (insOf r D) T bh fs).length (ints (zL (weakQ (insOf r D) T bh fs))) ∧ Below w.heap.size w w' := by
  have hn7 := hok.nstops
  have HBG := hid (begs_any t r.stops.length bh fs w hn7 hf3 ht)
  have HBL : Hid (∀ (W : World) (v : Value) (c : List Nat), c ∈ begsQ r.stops.length fs → Below w.heap.size w W → ListR W v (zL c) → Calls Tryz.prog 196 #[.pointer (some ⟨p, 0, none⟩), .pointer (some ⟨t, 0, none⟩), v] W fun e w' => ∃ x, e = .returned x ∧ w'.ownsRow W.heap.size 3 1 x (chainQ (insOf r D) bh c).length (ints (zL (chainQ (insOf r D) bh c))) ∧ Below W.heap.size W w') := fun W v c hc hW hv => by
    obtain ⟨k1, k2, _⟩ := begs_ok (I := insOf r D) hq hc
    exact sblk_any p t r D bh fs c v vs vf W hok (ha.below hW) hD (ht.below hW) hq hv k1 k2
  have HFR : Hid (∀ (W : World) (v : Value) (c : List Nat), Below w.heap.size w W → ListR W v (zL c) → 0 < c.length → c.length ≤ 20 → (∀ s ∈ c, s ≤ r.stops.length) → Calls Tryz.prog 197 #[.pointer (some ⟨p, 0, none⟩), v] W fun e w' => e = .returned (.int .i64 (freeN T c)) ∧ Below W.heap.size W w') := fun W v c hW hv h1 h2 h3 => sfree_any p r T af cf r.stops.length c v W hn7 (hA.below hW) hv h1 h2 h3
  have HQ := hid hq
  have hlB : (begsQ r.stops.length fs).length ≤ 10 := by unfold begsQ; simp; omega
  obtain ⟨Bg, hBg⟩ : ∃ Bg, Bg = begsQ r.stops.length fs := ⟨_, rfl⟩
  have HWQ : Hid (weakQ (insOf r D) T bh fs = (weakG (insOf r D) T bh Bg).1) := by show _ = _; rw [hBg]; rfl
  rw [← hBg] at HBG HBL hlB
  have HKN : Hid (∀ k, k ≤ Bg.length → WeakOk (insOf r D) (weakG (insOf r D) T bh (Bg.take k))) := fun k hk => weak_known hq Bg (fun c hc => by rw [hBg] at hc; exact hc) k hk
  have HCN : Hid (∀ c ∈ Bg, chainQ (insOf r D) bh c ≠ [] → ChOk (insOf r D) bh fs (chainQ (insOf r D) bh c)) := fun c hc hne => by
    rw [hBg] at hc
    obtain ⟨k1, k2, _⟩ := begs_ok (I := insOf r D) hq hc
    exact chain_len hq k1 k2 hne
  clear ha hA ht hq hD hBg
  go_enter Tryz.func144, Tryz.ntmps144
  go_wp2_with fail
  refine HBG.out.mono ?_
  rintro e1 w1 ⟨lv, vs1, rfl, hrt, hb1⟩
  have HRT := hid (hrt.read (by rw [List.length_map]; omega))
  have HB1 := hid hb1
  obtain ⟨al, cl, hlv, _, _⟩ := own_val hrt.own
  have hlen : vs1.length = Bg.length := by rw [hrt.len, List.length_map]
  rw [hlen] at hlv
  subst hlv
  clear hrt hb1 HBG
  go_wp2_with fail
  go_loopw [5, 6, 8] (fun bv fv i wr => ∃ (k : Nat) (st : List Nat × Nat), k ≤ Bg.length ∧ i = .int .i64 k ∧ fv = .int .i64 st.2 ∧ st.1.length ≤ 9 ∧ st.2 ≤ 20 ∧ Hid (st = weakG (insOf r D) T bh (Bg.take k)) ∧ Hid (wr.ownsRow w.heap.size 3 1 bv st.1.length (ints (zL st.1))) ∧ Hid (Below w1.heap.size w1 wr)) (fun _ _ i _ => Bg.length - (intOf i).toNat)
  case atStart => exact ⟨0, ([], 0), Nat.zero_le _, rfl, rfl, by simp, by simp, rfl, World.ownsRow_nil _ _ _ _, Below.refl _ _⟩
  case round =>
    obtain ⟨k, st, hk, rfl, rfl, hl9, hl20, HST, HO, HB⟩ := hrel
    obtain ⟨ab, cb, rfl, _, _⟩ := own_val HO.out
    have hbs := HB.out.size
    have HBB : Hid (Below w.heap.size w wr) := HB1.out.trans (HB.out.mono HB1.out.size)
    by_cases hlt : k < Bg.length
    · obtain ⟨ao', c', hv, _, hz⟩ := HRT.out.below HB.out
      rw [List.length_map] at hv
      cases hv
      obtain ⟨g, gi, ci, hga, hgl, x0, hgil, hcs⟩ := hz k (by simpa using hlt)
      subst hga
      have hmem : Bg[k] ∈ Bg := List.getElem_mem hlt
      have hlr : ListR wr (.slice (some ⟨gi, 0, none⟩) Bg[k].length ci) (zL Bg[k]) := by
        have e1 : (Bg.map zL)[k]'(by simpa using hlt) = zL Bg[k] := by simp
        refine ⟨some ⟨gi, 0, none⟩, ci, by rw [zL_len], fun j hj => ⟨gi, rfl, hgil, ?_⟩⟩
        have hj2 : j < ((Bg.map zL)[k]'(by simpa using hlt)).length := by rw [e1]; exact hj
        rw [hcs j hj2]
        simp only [e1]
        rw [List.getD_eq_getElem?_getD, List.getElem?_eq_getElem hj, Option.getD_some]
      have x1 : wr.cell? ⟨g, k, none⟩ = some (.slice (some ⟨gi, 0, none⟩) Bg[k].length ci) := by
        rw [x0]; simp [zL_len]
      have HC := hid (HBL.out wr _ Bg[k] hmem HBB.out hlr)
      have HST2 : Hid (weakG (insOf r D) T bh (Bg.take (k + 1)) = weakS T st (chainQ (insOf r D) bh Bg[k])) := by show _ = _; rw [weak_take hlt, HST.out]
      have HKN2 := hid (HKN.out (k + 1) (by omega))
      have HCH := hid (HCN.out _ hmem)
      generalize Bg[k] = c0 at *
      generalize chainQ (insOf r D) bh c0 = ch at *
      have ik : (0 : Int) ≤ (k : Int) := by omega
      have jk : (k : Int) < (Bg.length : Int) := by omega
      clear hz hcs x0 hlr hmem hlen
      go_wp2_with fail
      refine HC.out.mono ?_
      rintro e2 w2 ⟨x, rfl, hox, hb2⟩
      obtain ⟨ax, cx, rfl, _, _⟩ := own_val hox
      have HOX : Hid (w2.ownsRow w.heap.size 3 1 (.slice ax ch.length cx) ch.length (ints (zL ch))) := own_base hox (by have := HBB.out.size; omega)
      have HO2 := hid (own_below HO.out hb2)
      have HB2 : Hid (Below w1.heap.size w1 w2) := HB.out.trans (hb2.mono hbs)
      have HBB2 : Hid (Below w.heap.size w w2) := HBB.out.trans (hb2.mono HBB.out.size)
      clear hox hb2 HC HO HB x1
      by_cases hce : ch = []
      · subst hce
        have HS3 : Hid (st = weakG (insOf r D) T bh (Bg.take (k + 1))) := by show _ = _; rw [HST2.out]; rfl
        clear HST2 HCH
        go_wp2_with fail
        go_roundw
        case rel => exact ⟨k + 1, st, by omega, by go_num, rfl, hl9, hl20, HS3, HO2, HB2⟩
        case measure => simp [intOf]; omega
      · have hch := HCH.out hce
        have hc0 : 0 < ch.length := List.length_pos_iff.2 hce
        have hc9 := hch.len
        have HFC := hid (HFR.out w2 _ ch HBB2.out (ListR.own (by rw [zL_len]; exact HOX.out)) hc0 (by omega) hch.ok.rng)
        have hfl := free_le T ch
        have HWS : Hid (∀ b : Bool, (b = true ↔ (st.1 = [] ∨ freeN T ch < st.2)) → weakG (insOf r D) T bh (Bg.take (k + 1)) = if b = true then (ch, freeN T ch) else st) := fun b hb => by
          rw [HST2.out]
          unfold weakS
          rw [if_neg hce]
          by_cases hb2 : st.1 = [] ∨ freeN T ch < st.2
          · rw [if_pos hb2, if_pos (hb.2 hb2)]
          · rw [if_neg hb2, if_neg (fun h => hb2 (hb.1 h))]
        have hcz : ((ch.length : Int) == 0) = false := by simpa using hce
        generalize freeN T ch = fr at *
        clear hch HCH HST2 hce
        go_wp2_with fail
        refine HFC.out.mono ?_
        rintro e3 w3 ⟨rfl, hb3⟩
        have HOX3 := hid (own_below HOX.out hb3)
        have HO3 := hid (own_below HO2.out hb3)
        have HB3 : Hid (Below w1.heap.size w1 w3) := HB2.out.trans (hb3.mono HB2.out.size)
        clear hb3 HFC HOX HO2 HB2
        by_cases h1 : st.1 = []
        · have HS3 : Hid ((ch, fr) = weakG (insOf r D) T bh (Bg.take (k + 1))) := by show _ = _; rw [HWS.out true ⟨fun _ => .inl h1, fun _ => rfl⟩]; rfl
          have e1 : ((st.1.length : Int) == 0) = true := by simp [h1]
          clear HWS h1
          go_wp2_with fail
          go_roundw
          case rel => exact ⟨k + 1, (ch, fr), by omega, by go_num, rfl, hc9, by show fr ≤ 20; omega, HS3, HOX3, HB3⟩
          case measure => simp [intOf]; omega
        · have e1 : ((st.1.length : Int) == 0) = false := by simpa using h1
          by_cases h2 : fr < st.2
          · have HS3 : Hid ((ch, fr) = weakG (insOf r D) T bh (Bg.take (k + 1))) := by show _ = _; rw [HWS.out true ⟨fun _ => .inr h2, fun _ => rfl⟩]; rfl
            clear HWS h1
            go_wp2_with fail
            go_roundw
            case rel => exact ⟨k + 1, (ch, fr), by omega, by go_num, rfl, hc9, by show fr ≤ 20; omega, HS3, HOX3, HB3⟩
            case measure => simp [intOf]; omega
          · have HS3 : Hid (st = weakG (insOf r D) T bh (Bg.take (k + 1))) := by show _ = _; rw [HWS.out false ⟨fun h => (by cases h), fun h => (h.elim (fun h => absurd h h1) (fun h => absurd h h2))⟩]; rfl
            clear HWS h1
            go_wp2_with fail
            go_roundw
            case rel => exact ⟨k + 1, st, by omega, by go_num, rfl, hl9, hl20, HS3, HO3, HB3⟩
            case measure => simp [intOf]; omega
    · have HF : Hid (weakQ (insOf r D) T bh fs = st.1) := by show _ = _; rw [HWQ.out, HST.out, List.take_of_length_le (by omega)]
      go_wp2_with fail
      go_ret
      exact ⟨_, rfl, by rw [HF.out]; exact HO.out, HBB.out⟩
end Go.Proofs.YtebinaopncclgabGreatDoor
