/- Walks: a budget is a number of nodes. -/
import Derived.Test.YtebinaopncclgabGreatDoorSNext
import Derived.Test.YtebinaopncclgabGreatDoorGNodes
import Derived.Test.YtebinaopncclgabGreatDoorSText
import Derived.Test.YtebinaopncclgabGreatDoorXWrite
import Derived.Test.YtebinaopncclgabGreatDoorGBox
import Derived.Test.YtebinaopncclgabGreatDoorSDrv
namespace Go.Proofs.YtebinaopncclgabGreatDoor
open Go.RowKit Go.IntWalk

def GrowLeft (w0 : World) (p : Nat) (r : Rd) (b : Nat) (vs vf vf2 : Value) (e : Ending) (w' : World) : Prop :=
  e = .returned (.bool (growG (insOf r (siteD r)) b).2) ∧ ∃ vl, SearchAt w0 w' p r vl (growG (insOf r (siteD r)) b).1.fc (growG (insOf r (siteD r)) b).1.P vs vf vf2 ∧ NodesR w' (p + 1) vl (growG (insOf r (siteD r)) b).1.L ∧ GoodTo (insOf r (siteD r)) b
/- the search's box after k nodes -/
structure GrowAt (w0 w : World) (p : Nat) (r : Rd) (k : Nat) (vl vs vf vf2 : Value) : Prop where
  at_ : SearchAt w0 w p r vl (growG (insOf r (siteD r)) k).1.fc (growG (insOf r (siteD r)) k).1.P vs vf vf2
  list : NodesR w (p + 1) vl (growG (insOf r (siteD r)) k).1.L
  good : GoodTo (insOf r (siteD r)) k
  open_ : (growG (insOf r (siteD r)) k).2 = false
noncomputable def listN (w : World) (p : Nat) : Nat := match w.cell? ⟨p, 75, none⟩ with | some (.slice _ n _) => n | _ => 0
theorem insVans {r : Rd} (hok : RdOk r) : 1 ≤ (insOf r (siteD r)).vans ∧ (insOf r (siteD r)).vans ≤ 3 := by
  have hhd := headOk_iff.1 hok.head
  show 1 ≤ r.vans.toNat ∧ r.vans.toNat ≤ 3
  omega
theorem insFine {r : Rd} (hok : RdOk r) : InsOk (insOf r (siteD r)) := insOk_of hok (fun a b h1 h2 => (site_range hok a b h1 h2).1)
theorem GoodTo.succ {I : Ins} {k : Nat} (h : GoodTo I k) (hg : GoodB I (growG I k).1.P) : GoodTo I (k + 1) := fun j hj ho => by
  by_cases e : j = k
  · rw [e]; exact hg
  · exact h j (by omega) ho
theorem GoodTo.stay {I : Ins} {k b : Nat} (h : GoodTo I k) (hd : (growG I k).2 = true) : GoodTo I b := fun j _ ho => by
  by_cases e : j < k
  · exact h j e ho
  · rw [grw_stay hd j (by omega), hd] at ho; cases ho

theorem own_not_node {w : World} {B n b : Nat} {va : Value} {xs : List Value} {cs : Array Value} (g2 : w.ownsRow B 218 2 va n xs) (hb : w.heap[b]? = some (.cells cs 76 (0, 0))) : va.ownBlock ≠ some b := fun h => by
  rcases g2.2 with ⟨q1, _⟩ | ⟨gq, cap, cur, q1, _, q3, _⟩
  · rw [q1] at h; cases h
  · rw [q1] at h
    cases h
    rw [hb] at q3
    cases q3
theorem NodesR.aside {w : World} {B q o : Nat} {v y : Value} {L : List NodeT} (h : NodesR w B v L) (hq : q < B) : NodesR (w.setCell ⟨q, o, none⟩ y) B v L := by
  obtain ⟨us, h1, h2, h3⟩ := h
  exact ⟨us, h1, own_aside h2 hq, fun i hi => own_aside (h3 i hi) hq⟩
theorem grow_left {w0 w1 W2 X w5 : World} {p : Nat} {r : Rd} {vl v5 vs vf vf2 lx : Value} {fc : Option RoutesQ} {P : PathT} {L : List NodeT} {us : List Value} {nd : NodeT} (hsa : SearchAt w0 W2 p r vl fc P vs vf vf2) (hb2 : Below w1.heap.size w1 W2) (hn : W2.heap[w1.heap.size]? = some (.cells #[.int .i64 nd.1, lx] 76 (0, 0))) (hX : Below W2.heap.size W2 X)
    (h1 : us.length = L.length) (h2 : w1.ownsRow (p + 1) 76 2 vl L.length (cellsN L us)) (h3 : ∀ i (h : i < L.length), w1.ownsRow (p + 1) 3 1 (us.getD i (.slice none 0 0)) L[i].2.length (ints L[i].2)) (hl : w1.ownsRow (p + 1) 3 1 lx nd.2.length (ints nd.2)) (hp : p < w1.heap.size)
    (hg : X.grownBy w5 vl.ownBlock) (ho : w5.ownsRow (p + 1) 76 2 v5 (L.length + 1) (cellsN L us ++ [.int .i64 nd.1, lx])) :
    SearchAt w0 (w5.setCell ⟨p, 75, none⟩ v5) p r v5 fc P vs vf vf2 ∧ NodesR (w5.setCell ⟨p, 75, none⟩ v5) (p + 1) v5 (L ++ [nd]) ∧ (w5.setCell ⟨p, 75, none⟩ v5).heap[w1.heap.size]? = some (.cells #[.int .i64 nd.1, lx] 76 (0, 0)) ∧ (w5.setCell ⟨p, 75, none⟩ v5).ownsRow (p + 1) 3 1 lx nd.2.length (ints nd.2) := by
  have h2' := own_below h2 hb2
  have hl' := own_below hl hb2
  have hz : w1.heap.size < W2.heap.size := (Array.getElem?_eq_some_iff.1 hn).1
  have hk : Keep [76] X w5 := Keep.grown (own_below h2' hX) (by simp) hg
  refine ⟨search_push (walk_grown hsa hX h2' hg) v5, (NodesR.push (nd := nd) h1 h2' (fun i hi => own_below (h3 i hi) hb2) hl' hX hg ho).aside (by omega), ?_, own_aside (own_keep (own_below hl' hX) hk (by decide)) (by omega)⟩
  rw [Below.heap_setCell _ _ _ _ (by show w1.heap.size ≠ p; omega), hg.block _ (Nat.lt_of_lt_of_le hz hX.size) (fun he => by have := (h2.lt _ he.symm).2; omega), hX.block _ hz]
  exact hn

theorem grow_done {w0 w7 : World} {p b k : Nat} {r : Rd} {s : SSt} {v5 vs vf vf2 : Value} (h1 : growG (insOf r (siteD r)) b = growG (insOf r (siteD r)) (k + 1)) (h2 : GoodTo (insOf r (siteD r)) b) (h3 : growG (insOf r (siteD r)) (k + 1) = (s, true)) (h4 : SearchAt w0 w7 p r v5 s.fc s.P vs vf vf2) (h5 : NodesR w7 (p + 1) v5 s.L) : GrowLeft w0 p r b vs vf vf2 (.returned (.bool true)) w7 :=
  ⟨by rw [h1, h3], v5, by rw [h1, h3]; exact h4, by rw [h1, h3]; exact h5, h2⟩
set_option maxRecDepth 100000 in
set_option maxHeartbeats 8000000 in
theorem grow_any (w0 w : World) (p B b : Nat) (r : Rd) (vl vs vf : Value) (af : Option Addr) (cf : Nat) (hok : RdOk r) (hT : TabX B w0) (hB : B ≤ p) (hb : b ≤ 144115188075855872) (hw : GrowAt w0 w p r 0 vl vs vf (.slice af (r.stops.length + 1 : Nat) cf)) (hs : StR w0 vs r) (hq : SqR w0 vf (r.stops.length + 1) (siteD r)) (hq2 : SqR w0 (.slice af (r.stops.length + 1 : Nat) cf) (r.stops.length + 1) (siteD r)) :
    Calls Tryz.prog 41 #[.pointer (some ⟨p, 0, none⟩), .int .i64 b] w (GrowLeft w0 p r b vs vf (.slice af (r.stops.length + 1 : Nat) cf)) := by
  obtain ⟨i0, hi, hz0, hz1, hz2⟩ := info_parts Tryz.infoNode
  have hn7 := hok.nstops
  have HV := hid (insVans hok)
  have HI := hid (insFine hok)
  have HW := hid hw
  have hTB : ∀ W, Below p w0 W → TabX B W := fun W hW => hT.on hW hB
  clear hw
  go_enter Tryz.func41, Tryz.ntmps41
  go_wp2_with fail
  go_loopw [] (fun wr => ∃ (k : Nat) (vl : Value), k ≤ b ∧ Hid (GrowAt w0 wr p r k vl vs vf (.slice af (r.stops.length + 1 : Nat) cf))) (fun wr => b - listN wr p)
  case atStart => exact ⟨0, vl, Nat.zero_le _, HW⟩
  case round =>
    obtain ⟨k, vl, hk, HG⟩ := hrel
    obtain ⟨hiv, hlk⟩ := (grw_inv HI.out hn7 HV.out.1 HV.out.2 k HG.out.good).1 HG.out.open_
    have hk9 : k ≤ 90000000000 := by have h1 := hiv.pot; have h2 := bq_bound; omega
    have HIV := hid hiv
    obtain ⟨us, u1, u2, u3⟩ := HG.out.list
    obtain ⟨al, cl, rfl, _, _⟩ := own_val u2
    have c75 := search_list HG.out.at_
    rw [hlk] at c75
    have hpl := HG.out.at_.arcs.lt
    have f75 := HG.out.at_.arcs.frozen 75
    by_cases hlt : k < b
    · have HNX := hid (next_any w0 wr p B r _ _ _ vs vf af cf hok (hTB wr HG.out.at_.below) hB HG.out.at_ hs hq hq2)
      have HNK := hid (fun hg => next_ok HI.out hn7 HV.out.1 HV.out.2 hiv.path hg (growG (insOf r (siteD r)) k).1.fc)
      have HGN := hid (grw_next HG.out.open_)
      have HS1 : Hid ((nextQ (insOf r (siteD r)) (growG (insOf r (siteD r)) k).1.P (growG (insOf r (siteD r)) k).1.fc).1.1 = 1 → growG (insOf r (siteD r)) (k + 1) = (⟨(growG (insOf r (siteD r)) k).1.L ++ [(nextQ (insOf r (siteD r)) (growG (insOf r (siteD r)) k).1.P (growG (insOf r (siteD r)) k).1.fc).1], ((((nextQ (insOf r (siteD r)) (growG (insOf r (siteD r)) k).1.P (growG (insOf r (siteD r)) k).1.fc).1.2.getD 0 0).toNat, ((nextQ (insOf r (siteD r)) (growG (insOf r (siteD r)) k).1.P (growG (insOf r (siteD r)) k).1.fc).1.2.getD 1 0).toNat), true) :: (growG (insOf r (siteD r)) k).1.P, (nextQ (insOf r (siteD r)) (growG (insOf r (siteD r)) k).1.P (growG (insOf r (siteD r)) k).1.fc).2⟩, false)) := fun h => by
        rw [HGN.out]; unfold stepG; rw [if_pos h]
      have HS2 : Hid ((nextQ (insOf r (siteD r)) (growG (insOf r (siteD r)) k).1.P (growG (insOf r (siteD r)) k).1.fc).1.1 ≠ 1 → growG (insOf r (siteD r)) (k + 1) = (⟨(growG (insOf r (siteD r)) k).1.L ++ [(nextQ (insOf r (siteD r)) (growG (insOf r (siteD r)) k).1.P (growG (insOf r (siteD r)) k).1.fc).1], leaveP (growG (insOf r (siteD r)) k).1.P, (nextQ (insOf r (siteD r)) (growG (insOf r (siteD r)) k).1.P (growG (insOf r (siteD r)) k).1.fc).2⟩, (leaveP (growG (insOf r (siteD r)) k).1.P).isEmpty)) := fun h => by
        rw [HGN.out]; unfold stepG; rw [if_neg h]
      have HNL := hid HG.out.list
      have HSA := hid HG.out.at_
      have HGT := hid HG.out.good
      have hpd := path_depth hn7 hiv.path
      have HPT := hid hiv.path
      unfold NextLeft at HNX
      clear u1 u2 u3 hiv HIV HGN HG
      generalize nextQ (insOf r (siteD r)) (growG (insOf r (siteD r)) k).1.P (growG (insOf r (siteD r)) k).1.fc = X at *
      obtain ⟨⟨kd, zs⟩, fc'⟩ := X
      dsimp only at HNX HNK HS1 HS2
      go_wp2_with fail
      refine HNX.out.mono ?_
      rintro e1 w1 ⟨x, rfl, ho1, hs1, hk1, hg1⟩
      have HNO := hid (HNK.out hg1)
      have HGT1 := hid (HGT.out.succ hg1)
      have HN1 := hid (HNL.out.kept (by omega) HSA.out (KeptP.of_kept hk1))
      have HSA1 := hid hs1
      have hz1w : wr.heap.size ≤ w1.heap.size := hk1.1
      have HO1 : Hid (w1.ownsRow (p + 1) 3 1 x zs.length (ints zs)) := own_base ho1 (by omega)
      obtain ⟨ax, cx, rfl, _, _⟩ := own_val ho1
      have d75 := search_list hs1
      rw [hlk] at d75
      have hp1 := hs1.arcs.lt
      have fz1 := hs1.arcs.frozen 75
      obtain ⟨us, u1, u2, u3⟩ := HN1.out
      rw [hlk] at u1 u2
      have HU1 := hid u1
      have HU2 := hid u2
      have HU3 := hid u3
      clear ho1 hs1 hk1 hg1 HNX HNK HNL HSA u1 u2 u3
      obtain ⟨W2, hW2⟩ : ∃ W2, W2 = w1.alloc (.cells #[.int .i64 kd, .slice ax zs.length cx] 76) := ⟨_, rfl⟩
      have hb2 : Below w1.heap.size w1 W2 := by rw [hW2]; exact below1 w1 _
      have hz2w : W2.heap.size = w1.heap.size + 1 := by rw [hW2]; simp
      have hbn : W2.heap[w1.heap.size]? = some (.cells #[.int .i64 kd, .slice ax zs.length cx] 76 (0, 0)) := by rw [hW2]; exact heap_alloc_new w1 _
      have HBN := hid hbn
      have n0 : W2.cell? ⟨w1.heap.size, 0, none⟩ = _ := cell_of_row W2 _ 0 _ _ _ hbn
      have n1 : W2.cell? ⟨w1.heap.size, 1, none⟩ = _ := cell_of_row W2 _ 1 _ _ _ hbn
      have HB2 := hid hb2
      have HSA2 := hid (HSA1.out.mv hb2)
      have HU2W := hid (own_below HU2.out hb2)
      have e75 : W2.cell? ⟨p, 75, none⟩ = _ := (hb2.cell (by exact hp1)).trans d75
      have hp2 : p < W2.heap.size := by omega
      have hp3 : p + 1 < W2.heap.size := by omega
      obtain ⟨cs, ty, hbox⟩ := HSA2.out.arcs.box
      have HBOX := hid hbox
      have fz2 := HSA2.out.arcs.frozen 75
      have HWQ2 := hid hW2
      clear hb2 hbn hW2 hbox d75 fz1
      go_wp2_with fail
      rw [← HWQ2.out]
      go_region_law (refine step_append_own rfl (.tmp 19) (.tmp 21) 56 rfl (p + 1) 76 i0 (.agg #[.int .i64 0, .slice none 0 0]) 2 32 Tryz.underlying56 hi hz0 hz1 hz2 rfl (by decide) (.slice al k cl) k (cellsN (growG (insOf r (siteD r)) k).1.L us) (by simp [Act.eval]) (by exact own_new rfl HU2W.out rfl) ⟨W2.heap.size, 0, none⟩ 1 1 [.int .i64 kd, .slice ax zs.length cx] (by simp [Act.eval]) rfl (by exact news_at rfl rfl) (by intro u hu; simp at hu; rcases hu with rfl | rfl <;> rfl) (by unfold maxLen; omega) (by omega) (by exact lt_new rfl (Nat.le_refl (p + 1)) hp3) ?_; intro v5 w5 hown5 hgr5; have HO5 := hid hown5; have HG5 := hid hgr5; have HP5 : Hid (w5.heap[p]? = W2.heap[p]?) := kept_p (w := W2) (by exact rfl) hp2 HU2W.out hgr5; obtain ⟨g5, cap5, cur5, hv5, _, _, _⟩ := own_shape hown5 (by omega); clear hown5 hgr5; subst hv5; have c5 : w5.cell? ⟨p, 75, none⟩ = some (.slice al k cl) := (cell_p (k := 75) HBOX.out HP5.out).trans e75; have f5 : w5.frozen? ⟨p, 75, none⟩ = false := frozen_of_row w5 p 75 _ _ (HP5.out.trans HBOX.out))
      all_goals
        obtain ⟨w6, hw6⟩ : ∃ w6, w6 = w5.setCell ⟨p, 75, none⟩ (.slice (some ⟨g5, 0, none⟩) (k + 1) cap5) := ⟨_, rfl⟩
        obtain ⟨hs6, hn6, hb6, hx6⟩ := grow_left (nd := (kd, zs)) HSA2.out HB2.out HBN.out (below1 W2 _).drew (by rw [hlk]; exact HU1.out) (by rw [hlk]; exact HU2.out) HU3.out HO1.out hp1 (by rw [hlk]; exact HG5.out) (by rw [hlk]; exact HO5.out)
        rw [← hw6] at hs6 hn6 hb6 hx6
        have HS6 := hid hs6
        have HN6 := hid hn6
        have HX6 := hid hx6
        have y0 : w6.cell? ⟨w1.heap.size, 0, none⟩ = _ := cell_of_row w6 _ 0 _ _ _ hb6
        have y1 : w6.cell? ⟨w1.heap.size, 1, none⟩ = _ := cell_of_row w6 _ 1 _ _ _ hb6
        have ly : w1.heap.size < w6.heap.size := (Array.getElem?_eq_some_iff.1 hb6).1
        have lp6 := hs6.arcs.lt
        have HBN6 := hid hb6
        have HWQ6 := hid hw6
        clear hs6 hn6 hb6 hx6 hw6
        by_cases hkd : kd = 1
        · subst hkd
          obtain ⟨a, b', hzs, ha, hb', hab, h0, _⟩ := HNO.out.arc rfl
          have hzs' : zs = [(a : Int), (b' : Int)] := hzs
          subst hzs'
          have HGR := hid (HS1.out rfl)
          have HEN : Hid (∀ W, Below w6.heap.size w6 W → Calls Tryz.prog 89 #[.pointer (some ⟨p, 8, none⟩), .slice ax 2 cx] W fun e w' => e = .returned (.bool true) ∧ w'.cell? ⟨w1.heap.size, 1, none⟩ = some (.slice ax 2 cx) ∧ Hid (SearchAt w0 w' p r (.slice (some ⟨g5, 0, none⟩) (k + 1) cap5) fc' (((a, b'), true) :: (growG (insOf r (siteD r)) k).1.P) vs vf (.slice af (r.stops.length + 1 : Nat) cf)) ∧ Hid (NodesR w' (p + 1) (.slice (some ⟨g5, 0, none⟩) (k + 1) cap5) ((growG (insOf r (siteD r)) k).1.L ++ [(1, [(a : Int), (b' : Int)])]))) := fun W hW => by
            have hsW := HS6.out.mv hW
            refine (enter_yes w0 W p r _ _ _ vs vf af cf a b' hok (ListR.own (own_below HX6.out hW)) hsW (by omega) ha hb' hab h0).mono ?_
            rintro e w' ⟨h1, h2, h3⟩
            obtain ⟨va, g1, g2⟩ := hsW.above
            have hbW := (hW.block _ ly).trans HBN6.out
            have hne : va.ownBlock ≠ some w1.heap.size := own_not_node g2 hbW
            have hb' : w'.heap[w1.heap.size]? = _ := (h3.2 va g1 w1.heap.size (Nat.lt_of_lt_of_le ly hW.size) (by omega) hne).trans hbW
            exact ⟨h1, cell_of_row w' _ 1 _ _ _ hb', h2, (HN6.out.below hW).kept (by omega) hsW h3⟩
          have HY1 : Hid (w6.cell? ⟨w1.heap.size, 1, none⟩ = some (.slice ax 2 cx)) := y1
          rw [← HWQ6.out]
          go_wp2_with fail
          go_region_held3 (fun w' => w'.cell? ⟨w1.heap.size, 1, none⟩ = some (.slice ax 2 cx)) (go_keep) (first | (go_at_call 89; refine (HEN.out _ (by first | exact Below.refl _ _ | exact (Below.refl _ _).drew)).mono ?_; rintro e7 w7 ⟨rfl, x1, HS7, HN7⟩))
          have HGA : Hid (GrowAt w0 w7 p r (k + 1) (.slice (some ⟨g5, 0, none⟩) (k + 1) cap5) vs vf (.slice af (r.stops.length + 1 : Nat) cf)) := ⟨by rw [HGR.out]; exact HS7.out, by rw [HGR.out]; exact HN7.out, HGT1.out, by rw [HGR.out]⟩
          have HL7 : Hid (listN w7 p = k + 1) := by show _ = _; unfold listN; rw [search_list HS7.out]
          have HLR : Hid (listN wr p = k) := by show _ = _; unfold listN; rw [c75]
          clear HEN HS7 HN7 x1 HY1
          go_wp2
          refine ⟨⟨k + 1, _, by omega, HGA⟩, ?_⟩
          show b - listN w7 p < b - listN wr p
          rw [HL7.out, HLR.out]; omega
        · have e1 : (kd == 1) = false := by simpa using hkd
          have HGR := hid (HS2.out hkd)
          have HLV := hid (leave_any w0 w6 p r _ (growG (insOf r (siteD r)) k).1.P vs vf af cf hok HPT.out (by omega) HS6.out)
          cases hle : (leaveP (growG (insOf r (siteD r)) k).1.P).isEmpty with
          | true =>
            rw [hle] at HLV HGR
            have HDN : Hid (growG (insOf r (siteD r)) b = growG (insOf r (siteD r)) (k + 1)) := grw_stay (by rw [HGR.out]) b (by omega)
            have HGB : Hid (GoodTo (insOf r (siteD r)) b) := HGT1.out.stay (by rw [HGR.out])
            clear hle hkd
            rw [← HWQ6.out]
            go_wp2_with fail
            refine HLV.out.mono ?_
            rintro e7 w7 ⟨rfl, hs7, hk7⟩
            have HS7 := hid hs7
            have HN7 := hid (HN6.out.kept (by omega) HS6.out (KeptP.of_kept hk7))
            clear hs7 hk7 HLV
            go_wp2_with fail
            go_ret
            exact grow_done HDN.out HGB.out HGR.out HS7.out HN7.out
          | false =>
            rw [hle] at HLV HGR
            clear hle hkd
            rw [← HWQ6.out]
            go_wp2_with fail
            refine HLV.out.mono ?_
            rintro e7 w7 ⟨rfl, hs7, hk7⟩
            have HGA : Hid (GrowAt w0 w7 p r (k + 1) (.slice (some ⟨g5, 0, none⟩) (k + 1) cap5) vs vf (.slice af (r.stops.length + 1 : Nat) cf)) := ⟨by rw [HGR.out]; exact hs7, by rw [HGR.out]; exact HN6.out.kept (by omega) HS6.out (KeptP.of_kept hk7), HGT1.out, by rw [HGR.out]⟩
            have HL7 : Hid (listN w7 p = k + 1) := by show _ = _; unfold listN; rw [search_list hs7]
            have HLR : Hid (listN wr p = k) := by show _ = _; unfold listN; rw [c75]
            clear hs7 hk7 HLV
            go_wp2_with fail
            refine ⟨⟨k + 1, _, by omega, HGA⟩, ?_⟩
            show b - listN w7 p < b - listN wr p
            rw [HL7.out, HLR.out]; omega
    · have hkb : k = b := by omega
      subst hkb
      clear u1 u2 u3 hiv hlt
      go_wp2_with fail
      go_ret
      exact ⟨by rw [HG.out.open_]; rfl, _, HG.out.at_, HG.out.list, HG.out.good⟩
end Go.Proofs.YtebinaopncclgabGreatDoor
namespace Go.Proofs.YtebinaopncclgabGreatDoor

theorem plan_judge {r : Rd} (hok : RdOk r) {D : Nat → Nat → Int} {R : RoutesQ} (hp : PlanQ (insOf r D) R) : ∃ S, judgeS r D (planB R) = (costQ (insOf r D) R, some S, 0) := by
  have hn := hok.nstops
  have h2 : ∀ ρ ∈ R, ∀ s ∈ ρ, 1 ≤ s ∧ s ≤ r.stops.length := fun ρ hρ s hs => hp.stops s (List.mem_flatten.2 ⟨ρ, hρ, hs⟩)
  have h1 := plan_routes (R := R) hp.ne (fun ρ hρ s hs => by have := h2 ρ hρ s hs; omega)
  have h3 := plan_is (n := r.stops.length) (by omega) hp.ne h2
  obtain ⟨c, S, e⟩ := (judge_iff (D := D) hok).2 ⟨h3, by rw [h1]; exact hp⟩
  have hc := judge_cost e
  rw [h1] at hc
  exact ⟨S, by rw [e, hc]⟩
theorem planB_mem {R : RoutesQ} (h : ∀ ρ ∈ R, ∀ s ∈ ρ, s ≤ 9) : ∀ c ∈ planB R, c.toNat ≤ 57 := by
  have hd : ∀ ρ ∈ R, ∀ c ∈ digB ρ, c.toNat ≤ 57 := fun ρ hρ c hc => by
    obtain ⟨s, hs, rfl⟩ := List.mem_map.1 hc
    rw [dig_nat (h ρ hρ s hs)]
    have := h ρ hρ s hs
    omega
  cases R with
  | nil => intro c hc; cases hc
  | cons ρ R =>
    intro c hc
    rcases List.mem_append.1 hc with e | e
    · exact hd ρ (by simp) c e
    · obtain ⟨l, hl, hcl⟩ := List.mem_flatten.1 e
      obtain ⟨σ, hσ, rfl⟩ := List.mem_map.1 hl
      rcases List.mem_cons.1 hcl with e2 | e2
      · rw [e2]; decide
      · exact hd σ (by simp [hσ]) c e2
theorem planB_none {R : RoutesQ} (h : ∀ ρ ∈ R, ∀ s ∈ ρ, s ≤ 9) : planB R ≠ noneB := fun e => by
  have := planB_mem h 110 (by rw [e]; simp [noneB])
  have h2 : (110 : UInt8).toNat = 110 := rfl
  omega
theorem planQ_low {r : Rd} (hok : RdOk r) {D : Nat → Nat → Int} {R : RoutesQ} (hp : PlanQ (insOf r D) R) : ∀ ρ ∈ R, ∀ s ∈ ρ, s ≤ 9 := fun ρ hρ s hs => by
  have hn := hok.nstops
  have := hp.stops s (List.mem_flatten.2 ⟨ρ, hρ, hs⟩)
  have h2 : s ≤ r.stops.length := this.2
  omega
theorem end_check {r : Rd} (hok : RdOk r) {s : SSt} (h : SEnd (insOf r (siteD r)) s) : checkS r (planV s.fc) (textT s.L) = (0, 0) := by
  have hr := read_write h.tree
  have key : ∀ cl, ClOk (insOf r (siteD r)) s.fc cl → claimS r (planV s.fc) = (cl, 0) → checkS r (planV s.fc) (textT s.L) = (0, 0) := fun cl hc he => by
    unfold checkS
    rw [he, hr]
    rw [if_neg (by simp), if_neg (by simp), if_pos ((firstW_walk _ _ _ _ _).2 ⟨_, h.walk cl hc⟩)]
  cases hf : s.fc with
  | none =>
    rw [hf] at key
    exact key none (fun R hR => by cases hR) (by unfold claimS planV noneB; rw [if_pos rfl])
  | some R =>
    rw [hf] at key
    have hp := h.plan R hf
    obtain ⟨S, hj⟩ := plan_judge hok hp
    refine key (some (costQ (insOf r (siteD r)) R)) (fun R' hR => by cases hR; exact ⟨_, rfl, Int.le_refl _⟩) ?_
    show claimS r (planB R) = _
    unfold claimS
    rw [if_neg (planB_none (planQ_low hok hp)), hj, if_neg (by simp)]
theorem text_len : ∀ {L : List NodeT}, (∀ nd ∈ L, nodeOkT nd = true) → (textT L).length ≤ 230 * L.length ∧ (textT L).count 10 = L.length := by
  intro L
  induction L with
  | nil => intro _; exact ⟨by simp [textT], by simp [textT]⟩
  | cons nd L ih =>
    intro h
    obtain ⟨h1, h2⟩ := ih fun x hx => h x (by simp [hx])
    have h3 := line_len (h nd (by simp))
    have e : textT (nd :: L) = lineT nd ++ textT L := by simp [textT]
    refine ⟨by rw [e, List.length_append, List.length_cons]; omega, ?_⟩
    rw [e, List.count_append, h2, List.length_cons]
    have h4 : (lineT nd).count 10 = 1 := by
      unfold lineT
      rw [List.count_append, List.count_eq_zero.2 (body_line (h nd (by simp)))]; rfl
    omega
end Go.Proofs.YtebinaopncclgabGreatDoor
namespace Go.Proofs.YtebinaopncclgabGreatDoor
open Go.RowKit Go.IntWalk

/- the answer -/
noncomputable def ansV (I : Ins) (b : Nat) : Int := if (growG I b).2 = true then (if (growG I b).1.fc.isSome = true then 1 else 2) else 3
noncomputable def ansT (I : Ins) (b : Nat) : List UInt8 := if (growG I b).2 = true then textT (growG I b).1.L else []
noncomputable def ansP (I : Ins) (b : Nat) : List UInt8 := planV (growG I b).1.fc
noncomputable def ansC (I : Ins) (b : Nat) : Int := costV I (growG I b).1.fc
def searchO : Array Value := #[.int .i64 0, .int .i64 0, .int .i64 0, .int .i64 0, .int .i64 0, .slice none 0 0, .slice none 0 0, .slice none 0 0] ++ placeZ 0 (.slice none 0 0) ++ #[.slice none 0 0, .bool false, .string ⟨#[]⟩, .int .i64 0]
theorem zero_search (W : World) : (zeroValue 94).run Tryz.prog W = .ok (.agg searchO) W := by kernel_rfl
theorem searchO_size : searchO.size = 79 := by kernel_rfl
def nonS : Value := .string ⟨#[110, 111, 110, 101]⟩
def searchZ (r : Rd) (vs vr vf v2 : Value) : Array Value := ground r vs vr vf ++ placeZ r.vans v2 ++ #[.slice none 0 0, .bool false, nonS, .int .i64 0]
def searchM (r : Rd) (vs vr vf v2 : Value) : Array Value := ground r vs vr vf ++ placeZ r.vans v2 ++ #[.slice none 0 0, .bool false, .string ⟨#[]⟩, .int .i64 0]
theorem searchM_size (r : Rd) (vs vr vf v2 : Value) : (searchM r vs vr vf v2).size = 79 := by unfold searchM; rw [Array.size_append, Array.size_append, placeZ_size]; rfl
theorem fold_search (a0 a1 a2 a3 a4 x : Int) (v5 v6 v7 v2 : Value) : Array.foldl (fun (cs : Array Value) (x : Value × Nat) => cs.setIfInBounds (8 + x.snd) x.fst) ((((((((searchO.setIfInBounds 0 (.int .i64 a0)).setIfInBounds 1 (.int .i64 a1)).setIfInBounds 2 (.int .i64 a2)).setIfInBounds 3 (.int .i64 a3)).setIfInBounds 4 (.int .i64 a4)).setIfInBounds 5 v5).setIfInBounds 6 v6).setIfInBounds 7 v7) (placeZ x v2).zipIdx 0 67 = #[.int .i64 a0, .int .i64 a1, .int .i64 a2, .int .i64 a3, .int .i64 a4, v5, v6, v7] ++ placeZ x v2 ++ #[.slice none 0 0, .bool false, .string ⟨#[]⟩, .int .i64 0] := by kernel_rfl
theorem set_search (r : Rd) (vs vr vf v2 : Value) : (searchM r vs vr vf v2).setIfInBounds 77 nonS = searchZ r vs vr vf v2 := by kernel_rfl
theorem searchZ_at (w0 : World) (r : Rd) (vs vr vf v2 : Value) (t : TypeId) : SearchAt w0 (w0.alloc (.cells (searchZ r vs vr vf v2) t)) w0.heap.size r (.slice none 0 0) none [] vs vf v2 := by
  have hb := heap_alloc_new w0 (.cells (searchZ r vs vr vf v2) t)
  refine ⟨rfl, below1 w0 _, ?_, ?_, ?_, ?_, ?_, ⟨⟨_, _, hb⟩, ?_, ?_, fun a b ha hb' => ?_⟩, ⟨.slice none 0 0, ?_, World.ownsRow_nil _ _ _ _⟩, fun k u hk1 hk2 => ?_⟩
  · rw [cell_of_row _ _ _ _ _ _ hb]; kernel_rfl
  · rw [cell_of_row _ _ _ _ _ _ hb]; kernel_rfl
  · rw [cell_of_row _ _ _ _ _ _ hb]; kernel_rfl
  · rw [cell_of_row _ _ _ _ _ _ hb]; kernel_rfl
  · rw [cell_of_row _ _ _ _ _ _ hb]; kernel_rfl
  · rw [cell_of_row _ _ _ _ _ _ hb]; kernel_rfl
  · rw [cell_of_row _ _ _ _ _ _ hb]; kernel_rfl
  · rw [cell_of_row _ _ _ _ _ _ hb]
    have e1 : searchZ r vs vr vf v2 = (ground r vs vr vf ++ #[.int .i64 r.vans, v2]) ++ (Array.replicate 64 (.int .i64 0) ++ #[.slice none 0 0, .slice none 0 0, .bool false, nonS, .int .i64 0]) := by unfold searchZ placeZ arcsZ; simp
    rw [e1, Array.getElem?_append_right (by simp [ground]; omega), Array.getElem?_append_left (by simp [ground]; omega), Array.getElem?_replicate, if_pos (by simp [ground]; omega)]
    rfl
  · rw [cell_of_row _ _ _ _ _ _ hb]; kernel_rfl
  · unfold exS at hk2
    by_cases e1 : k = 75
    · rw [if_pos e1] at hk2; cases hk2; subst e1; rw [cell_of_row _ _ _ _ _ _ hb]; kernel_rfl
    · rw [if_neg e1] at hk2
      by_cases e2 : k = 76
      · rw [if_pos e2] at hk2; cases hk2; subst e2; rw [cell_of_row _ _ _ _ _ _ hb]; kernel_rfl
      · rw [if_neg e2] at hk2
        by_cases e3 : k = 77
        · rw [if_pos e3] at hk2; cases hk2; subst e3; rw [cell_of_row _ _ _ _ _ _ hb]; kernel_rfl
        · rw [if_neg e3] at hk2
          by_cases e4 : k = 78
          · rw [if_pos e4] at hk2; cases hk2; subst e4; rw [cell_of_row _ _ _ _ _ _ hb]; kernel_rfl
          · rw [if_neg e4] at hk2; cases hk2
theorem nodes_tree {w : World} {B : Nat} {v : Value} {L : List NodeT} (h : NodesR w B v L) : TreeO w v L := by
  have hv : ∃ ao c, v = .slice ao L.length c := by
    obtain ⟨us, _, h2, _⟩ := h
    obtain ⟨ao, c, e, _, _⟩ := own_val h2
    exact ⟨ao, c, e⟩
  obtain ⟨ao, c, e⟩ := hv
  refine ⟨ao, c, e, fun i hi => ?_⟩
  obtain ⟨g, c2, ai, ci, e2, _, hl, x0, x1, hlr⟩ := h.at hi
  rw [e] at e2
  cases e2
  refine ⟨g, 0, ai, ci, rfl, hl, by rw [Nat.zero_add]; exact x0, by rw [Nat.zero_add]; exact x1, ?_⟩
  obtain ⟨a, c3, e3, hz⟩ := hlr
  refine ⟨a, c3, e3, fun j hj => ?_⟩
  obtain ⟨g', k1, k2, k3⟩ := hz j hj
  exact ⟨g', 0, k1, k2, by rw [Nat.zero_add]; exact k3⟩

set_option maxRecDepth 100000 in
set_option maxHeartbeats 8000000 in
theorem solve_ok (s : ByteArray) (r : Rd) (B b : Nat) (w : World) (hs : s.size ≤ maxLen) (hp : parseS s.data.toList = (r, 0, 0)) (hok : RdOk r) (hb : b ≤ 144115188075855872) (hT : TabX B w) (hB : B ≤ w.heap.size) :
    Calls Tryz.prog 24 #[.string s, .int .i64 b] w fun e w' => e = .returned (.tuple #[.agg #[.int .i64 (ansV (insOf r (siteD r)) b), .string ⟨(ansP (insOf r (siteD r)) b).toArray⟩, .int .i64 (ansC (insOf r (siteD r)) b), .string ⟨(ansT (insOf r (siteD r)) b).toArray⟩], .int .i64 0]) ∧ GoodTo (insOf r (siteD r)) b ∧ Below w.heap.size w w' := by
  have HCP : Hid (∀ W, Calls Tryz.prog 37 #[.string s] W (Parsed W (r, 0, 0))) := fun W => by rw [← hp]; exact parse_any s W hs
  have HOK := hid hok
  have hns := HOK.out.nstops
  have hnr := HOK.out.nroads
  have HT := hid hT
  obtain ⟨W0, hW0⟩ : ∃ W0, W0 = w.alloc (.cells #[.int .i64 0, .string ⟨#[]⟩, .int .i64 0, .string ⟨#[]⟩] 35) := ⟨_, rfl⟩
  have HB0 : Hid (Below w.heap.size w W0) := by show Below _ _ _; rw [hW0]; exact below1 w _
  have hz0w : W0.heap.size = w.heap.size + 1 := by rw [hW0]; simp
  have hbx0 : W0.heap[w.heap.size]? = some (.cells #[.int .i64 0, .string ⟨#[]⟩, .int .i64 0, .string ⟨#[]⟩] 35 (0, 0)) := by rw [hW0]; exact heap_alloc_new w _
  have HBX0 := hid hbx0
  have HWQ0 := hid hW0
  clear hok hs hp hT hW0 hbx0
  go_enter Tryz.func24, Tryz.ntmps24
  go_wp2_with fail
  rw [← HWQ0.out]
  refine (HCP.out _).mono ?_
  rintro e1 w1 ⟨vs, vr, rfl, hos, hor, hb1⟩
  unfold inst
  obtain ⟨aos, caps, hv1, _, _⟩ := own_val hos
  obtain ⟨aor, capr, hv2, _, _⟩ := own_val hor
  subst hv1 hv2
  have HB1 : Hid (Below W0.heap.size W0 w1) := hb1
  have HS1 := hid hos
  have HR1 := hid hor
  have hz1w := hb1.size
  have hbb : ¬ (b : Int) < 0 := by omega
  have hbc : ¬ (144115188075855872 : Int) < (b : Int) := by omega
  clear hos hor hb1 HCP
  go_wp2_with fail
  refine (of_any W0.heap.size W0.heap.size r (.slice aos r.stops.length caps) (.slice aor r.roads.length capr) _ HOK.out (HS1.out.alloc _) (HR1.out.alloc _)).mono ?_
  rintro e2 w2 ⟨v2, rfl, hg2, hb2⟩
  have hb12 : Below w1.heap.size w1 w2 := (below1 w1 _).trans (hb2.mono (by simp))
  have hbx2 : w2.heap[w1.heap.size]? = some (.cells #[.int .i64 r.vans, .int .i64 r.load, .int .i64 r.close, .int .i64 r.nodes, .int .i64 r.home, .slice aos r.stops.length caps, .slice aor r.roads.length capr] 28 (0, 0)) := (hb2.block _ (by simp)).trans (heap_alloc_new w1 _)
  obtain ⟨q0, q1, q2, q3, q4, q5, q6, _⟩ := seven hbx2
  have hxl : w1.heap.size < w2.heap.size := (Array.getElem?_eq_some_iff.1 hbx2).1
  have HB2 : Hid (Below W0.heap.size W0 w2) := HB1.out.trans (hb12.mono HB1.out.size)
  have HSQ2 : Hid (SqR w2 v2 (r.stops.length + 1) (siteD r)) := hg2.sq (by omega)
  have HS2 := hid (own_below HS1.out hb12)
  have HR2 := hid (own_below HR1.out hb12)
  obtain ⟨g7, _, rfl, _⟩ := hg2
  clear hb2 hb12 HS1 HR1 HB1 hbx2
  unfold ground
  go_wp2_with fail
  obtain ⟨W2, hW2⟩ : ∃ W2, W2 = w2.alloc (.cells (ground r (.slice aos r.stops.length caps) (.slice aor r.roads.length capr) (.slice (some ⟨g7, 0, none⟩) (r.stops.length + 1) (r.stops.length + 1))) 82) := ⟨_, rfl⟩
  have hW2' := hW2
  unfold ground at hW2'
  rw [← hW2']
  have hbW2 : Below w2.heap.size w2 W2 := by rw [hW2]; exact below1 w2 _
  have hbx3 : W2.heap[w2.heap.size]? = some (.cells (ground r (.slice aos r.stops.length caps) (.slice aor r.roads.length capr) (.slice (some ⟨g7, 0, none⟩) (r.stops.length + 1) (r.stops.length + 1))) 82 (0, 0)) := by rw [hW2]; exact heap_alloc_new w2 _
  have HBX3 := hid hbx3
  have HBW2 := hid hbW2
  clear hW2 hW2' q0 q1 q2 q3 q4 q5 q6 hbx3 hbW2
  refine (root_any W0.heap.size W0.heap.size r (.slice aos r.stops.length caps) (.slice aor r.roads.length capr) _ HOK.out (own_below HS2.out HBW2.out) (own_below HR2.out HBW2.out)).mono ?_
  rintro e3 w3 ⟨v3, rfl, hg3, hb3⟩
  have hb23 : Below w2.heap.size w2 w3 := HBW2.out.trans (hb3.mono HBW2.out.size)
  have HB3 : Hid (Below W0.heap.size W0 w3) := HB2.out.trans (hb23.mono HB2.out.size)
  have HSQ3 : Hid (SqR w3 v3 (r.stops.length + 1) (siteD r)) := hg3.sq (by omega)
  have HSQ2' : Hid (SqR w3 (.slice (some ⟨g7, 0, none⟩) (r.stops.length + 1) (r.stops.length + 1)) (r.stops.length + 1) (siteD r)) := HSQ2.out.below hb23
  have HST3 : Hid (StR w3 (.slice aos r.stops.length caps) r) := (StR.own HS2.out (fun s hs => (HOK.out.nice.stops s hs).1)).below hb23
  have hl2 : w2.heap.size < W2.heap.size := (Array.getElem?_eq_some_iff.1 HBX3.out).1
  have hbx4 : w3.heap[w2.heap.size]? = _ := (hb3.block _ hl2).trans HBX3.out
  have hl3 : w2.heap.size < w3.heap.size := (Array.getElem?_eq_some_iff.1 hbx4).1
  obtain ⟨q0, q1, q2, q3, q4, q5, q6, q7⟩ := ground_cells hbx4
  obtain ⟨g8, _, rfl, _⟩ := hg3
  obtain ⟨cp, hcp⟩ : ∃ cp, cp = placeZ r.vans (.slice (some ⟨g8, 0, none⟩) (r.stops.length + 1) (r.stops.length + 1)) := ⟨_, rfl⟩
  have hcps : cp.size = 67 := by rw [hcp]; exact placeZ_size _ _
  rw [← hcp]
  have hcpo : cp.all (·.oneCell') = true := by
    rw [hcp, Array.all_eq_true_iff_forall_mem]
    intro u hu
    exact placeZ_one rfl u (Array.mem_toList_iff.2 hu)
  have hst := run_storeCells_new (P := Tryz.prog) w3 90 Tryz.zeroCells90 cp (by rw [hcps]; kernel_rfl) (by rw [hcps]; kernel_rfl) hcpo
  have hfw : Array.foldl (fun (cs : Array Value) (x : Value × Nat) => cs.setIfInBounds (8 + x.snd) x.fst) ((((((((searchO.setIfInBounds 0 (.int .i64 r.vans)).setIfInBounds 1 (.int .i64 r.load)).setIfInBounds 2 (.int .i64 r.close)).setIfInBounds 3 (.int .i64 r.nodes)).setIfInBounds 4 (.int .i64 r.home)).setIfInBounds 5 (.slice aos r.stops.length caps)).setIfInBounds 6 (.slice aor r.roads.length capr)).setIfInBounds 7 (.slice (some ⟨g7, 0, none⟩) (r.stops.length + 1) (r.stops.length + 1))) cp.zipIdx 0 67 = searchM r (.slice aos r.stops.length caps) (.slice aor r.roads.length capr) (.slice (some ⟨g7, 0, none⟩) (r.stops.length + 1) (r.stops.length + 1)) (.slice (some ⟨g8, 0, none⟩) (r.stops.length + 1) (r.stops.length + 1)) := by rw [hcp]; exact fold_search _ _ _ _ _ _ _ _ _ _
  obtain ⟨cm, hcm⟩ : ∃ cm, cm = searchM r (.slice aos r.stops.length caps) (.slice aor r.roads.length capr) (.slice (some ⟨g7, 0, none⟩) (r.stops.length + 1) (r.stops.length + 1)) (.slice (some ⟨g8, 0, none⟩) (r.stops.length + 1) (r.stops.length + 1)) := ⟨_, rfl⟩
  rw [← hcm] at hfw
  have hcms : cm.size = 79 := by rw [hcm]; exact searchM_size _ _ _ _ _
  obtain ⟨cw, hcw⟩ : ∃ cw, cw = cm.setIfInBounds 77 nonS := ⟨_, rfl⟩
  have hcz : cw = searchZ r (.slice aos r.stops.length caps) (.slice aor r.roads.length capr) (.slice (some ⟨g7, 0, none⟩) (r.stops.length + 1) (r.stops.length + 1)) (.slice (some ⟨g8, 0, none⟩) (r.stops.length + 1) (r.stops.length + 1)) := by rw [hcw, hcm]; exact set_search _ _ _ _ _
  obtain ⟨V0, hV0⟩ : ∃ V0, V0 = w3.alloc (.cells cp 90) := ⟨_, rfl⟩
  have hzV : V0.heap.size = w3.heap.size + 1 := by rw [hV0]; simp
  have hb3V : Below w3.heap.size w3 V0 := by rw [hV0]; exact below1 w3 _
  have HSA : Hid (SearchAt V0 (V0.alloc (.cells cw 94)) (w3.heap.size + 1) r (.slice none 0 0) none [] (.slice aos r.stops.length caps) (.slice (some ⟨g7, 0, none⟩) (r.stops.length + 1) (r.stops.length + 1)) (.slice (some ⟨g8, 0, none⟩) (r.stops.length + 1) (r.stops.length + 1))) := by
    have h := searchZ_at V0 r (.slice aos r.stops.length caps) (.slice aor r.roads.length capr) (.slice (some ⟨g7, 0, none⟩) (r.stops.length + 1) (r.stops.length + 1)) (.slice (some ⟨g8, 0, none⟩) (r.stops.length + 1) (r.stops.length + 1)) 94
    rw [← hcz, hzV] at h
    exact h
  have HBV : Hid (Below W0.heap.size W0 V0) := HB3.out.trans (hb3V.mono HB3.out.size)
  have HSTV := hid (HST3.out.below hb3V)
  have HSQ2V := hid (HSQ2'.out.below hb3V)
  have HSQ3V := hid (HSQ3.out.below hb3V)
  have HVQ := hid hV0
  have HCWQ := hid hcw
  have HZV := hid hzV
  clear hcm hcw hcz hV0 hb3V hzV HSQ3 HSQ2' HST3
  have hzw := zero_search
  have hzs := searchO_size
  have HCPQ := hid hcp
  have hz3 := HB3.out.size
  clear hcp hcpo hb3 hb23 HS2 HR2 HBX3 HBW2 hbx4 hl2 HSQ2
  go_wp2_with fail
  refine wp_load_row (P := Tryz.prog) 90 (.tmp 10) rfl w3.heap.size rfl 90 cp (0, 0) _ (heap_alloc_new w3 _) Tryz.underlying90 rfl (by rw [hcps]; kernel_rfl) ?_
  go_wp2_with fail
  have hcq : cm.setIfInBounds 77 (.string ⟨#[110, 111, 110, 101]⟩) = cw := HCWQ.out.symm
  rw [← HVQ.out, hcq]
  have HBw : Hid (Below w.heap.size w V0) := HB0.out.trans (HBV.out.mono (by omega))
  have HTV := hid (HT.out.on HBw.out hB)
  clear hst hzw hzs hfw hcps q0 q1 q2 q3 q4 q5 q6 q7 HCPQ hcq hcms HCWQ HVQ hbb hbc
  have hzq : V0.heap.size = w3.heap.size + 1 := HZV.out
  refine (grow_any V0 _ (w3.heap.size + 1) B b r (.slice none 0 0) _ _ _ _ HOK.out HTV.out (by omega) hb ⟨HSA.out, NodesR.nil _ _, fun j hj => absurd hj (by omega), rfl⟩ HSTV.out HSQ2V.out HSQ3V.out).mono ?_
  rintro e5 w5 ⟨rfl, vl, hs5, hn5, hgt⟩
  have HS5 := hid hs5
  have HN5 := hid hn5
  have HGT := hid hgt
  have hbp : Below (w3.heap.size + 1) V0 w5 := hs5.below
  have HB5 : Hid (Below w.heap.size w w5) := HBw.out.trans (hbp.mono (by omega))
  have HB50 : Hid (Below W0.heap.size W0 w5) := HBV.out.trans (hbp.mono (by omega))
  have hbx5 := (HB50.out.block w.heap.size (by omega)).trans HBX0.out
  have y0 : w5.cell? ⟨w.heap.size, 0, none⟩ = _ := cell_of_row w5 _ 0 _ _ _ hbx5
  have y1 : w5.cell? ⟨w.heap.size, 1, none⟩ = _ := cell_of_row w5 _ 1 _ _ _ hbx5
  have y2 : w5.cell? ⟨w.heap.size, 2, none⟩ = _ := cell_of_row w5 _ 2 _ _ _ hbx5
  have y3 : w5.cell? ⟨w.heap.size, 3, none⟩ = _ := cell_of_row w5 _ 3 _ _ _ hbx5
  have ly : w.heap.size < w5.heap.size := (Array.getElem?_eq_some_iff.1 hbx5).1
  have fy0 := frozen_of_row w5 w.heap.size 0 _ _ hbx5
  have fy1 := frozen_of_row w5 w.heap.size 1 _ _ hbx5
  have fy2 := frozen_of_row w5 w.heap.size 2 _ _ hbx5
  have fy3 := frozen_of_row w5 w.heap.size 3 _ _ hbx5
  have lp := hs5.arcs.lt
  have c75 := search_list hs5
  have c76 := search_found hs5
  have c77 := search_plan hs5
  have c78 := search_cost hs5
  have HBX5 := hid hbx5
  obtain ⟨avl, nvl, cvl, hvl⟩ : ∃ a n c, vl = .slice a n c := by
    obtain ⟨us, _, h2, _⟩ := hn5
    obtain ⟨a, c, e, _, _⟩ := own_val h2
    exact ⟨a, _, c, e⟩
  subst hvl
  clear hs5 hn5 hgt hbp hbx5 HSA
  cases hd : (growG (insOf r (siteD r)) b).2 with
  | false =>
    have HVV : Hid (ansV (insOf r (siteD r)) b = 3 ∧ ansT (insOf r (siteD r)) b = []) := by
      show _ ∧ _
      unfold ansV ansT
      rw [hd]; exact ⟨rfl, rfl⟩
    clear hd
    have nq1 : w.heap.size ≠ w3.heap.size + 1 := by omega
    have nq2 : w3.heap.size + 1 ≠ w.heap.size := by omega
    go_wp2_with fail
    go_region_held3 (fun w' => w'.cell? ⟨w3.heap.size + 1, 77, none⟩ = some (.string ⟨(planV (growG (insOf r (siteD r)) b).1.fc).toArray⟩) ∧ w'.cell? ⟨w3.heap.size + 1, 78, none⟩ = some (.int .i64 (costV (insOf r (siteD r)) (growG (insOf r (siteD r)) b).1.fc))) (go_keep) (fail)
    go_wp2_with fail
    refine bodyPost_ret (v := .tuple #[.agg #[.int .i64 3, .string ⟨(planV (growG (insOf r (siteD r)) b).1.fc).toArray⟩, .int .i64 (costV (insOf r (siteD r)) (growG (insOf r (siteD r)) b).1.fc), .string ⟨#[]⟩], .int .i64 0]) (by simp [results, Tryz.results24, go_sem, y0, y1, y2, y3]) rfl ?_
    refine ⟨by rw [HVV.out.1, HVV.out.2]; rfl, HGT.out, ?_⟩
    first | exact ((((HB5.out.setCell (by exact Nat.le_refl _) _).setCell (by exact Nat.le_refl _) _).setCell (by exact Nat.le_refl _) _).setCell (by exact Nat.le_refl _) _) | exact ((((HB5.out.setCell (by exact Nat.le_refl _) _).setCell (by exact Nat.le_refl _) _).setCell (by exact Nat.le_refl _) _).setCell (by exact Nat.le_refl _) _).drew
  | true =>
    obtain ⟨_, hend⟩ := grw_inv (insFine HOK.out) hns (insVans HOK.out).1 (insVans HOK.out).2 b HGT.out
    obtain ⟨hse, _⟩ := hend hd
    have HVV : Hid (ansV (insOf r (siteD r)) b = (if (growG (insOf r (siteD r)) b).1.fc.isSome = true then 1 else 2) ∧ ansT (insOf r (siteD r)) b = textT (growG (insOf r (siteD r)) b).1.L) := by
      show _ ∧ _
      unfold ansV ansT
      rw [hd]; exact ⟨rfl, rfl⟩
    have HWT : Hid (writeT (growG (insOf r (siteD r)) b).1.L = (textT (growG (insOf r (siteD r)) b).1.L, 0)) := by show _ = _; unfold writeT; rw [if_pos hse.tree]
    have HTW := hid (twrite_any B (growG (insOf r (siteD r)) b).1.L _ w5 (HTV.out.on HS5.out.below (by omega)) (by omega) (by have h1 := hse.len; have h2 := bq_bound; omega) (fun nd hm => by have := (node_facts hse.tree hm).1; omega) (nodes_tree HN5.out))
    rw [HWT.out] at HTW
    clear hd hend hse HWT
    go_wp2_with fail
    refine HTW.out.mono ?_
    rintro e6 w6 ⟨rfl, hb6⟩
    have z0 : w6.cell? ⟨w.heap.size, 0, none⟩ = _ := (hb6.cell (by exact ly)).trans y0
    have z1 : w6.cell? ⟨w.heap.size, 1, none⟩ = _ := (hb6.cell (by exact ly)).trans y1
    have z2 : w6.cell? ⟨w.heap.size, 2, none⟩ = _ := (hb6.cell (by exact ly)).trans y2
    have z3 : w6.cell? ⟨w.heap.size, 3, none⟩ = _ := (hb6.cell (by exact ly)).trans y3
    have hbx6 := (hb6.block _ ly).trans HBX5.out
    have lz : w.heap.size < w6.heap.size := Nat.lt_of_lt_of_le ly hb6.size
    have fz0 := frozen_of_row w6 w.heap.size 0 _ _ hbx6
    have fz1 := frozen_of_row w6 w.heap.size 1 _ _ hbx6
    have fz2 := frozen_of_row w6 w.heap.size 2 _ _ hbx6
    have fz3 := frozen_of_row w6 w.heap.size 3 _ _ hbx6
    have lp6 : w3.heap.size + 1 < w6.heap.size := Nat.lt_of_lt_of_le lp hb6.size
    have d76 : w6.cell? ⟨w3.heap.size + 1, 76, none⟩ = _ := (hb6.cell (by exact lp)).trans c76
    have d77 : w6.cell? ⟨w3.heap.size + 1, 77, none⟩ = _ := (hb6.cell (by exact lp)).trans c77
    have d78 : w6.cell? ⟨w3.heap.size + 1, 78, none⟩ = _ := (hb6.cell (by exact lp)).trans c78
    have HB6 : Hid (Below w.heap.size w w6) := HB5.out.trans (hb6.mono HB5.out.size)
    have nq1 : w.heap.size ≠ w3.heap.size + 1 := by omega
    have nq2 : w3.heap.size + 1 ≠ w.heap.size := by omega
    clear hb6 hbx6 HTW y0 y1 y2 y3 fy0 fy1 fy2 fy3 c75 c76 c77 c78 ly lp
    have HAP : Hid (ansP (insOf r (siteD r)) b = planV (growG (insOf r (siteD r)) b).1.fc ∧ ansC (insOf r (siteD r)) b = costV (insOf r (siteD r)) (growG (insOf r (siteD r)) b).1.fc) := ⟨rfl, rfl⟩
    generalize (growG (insOf r (siteD r)) b).1.fc.isSome = bf at *
    cases bf with
    | false =>
      go_wp2_with fail
      go_region_held3 (fun w' => w'.cell? ⟨w3.heap.size + 1, 77, none⟩ = some (.string ⟨(planV (growG (insOf r (siteD r)) b).1.fc).toArray⟩) ∧ w'.cell? ⟨w3.heap.size + 1, 78, none⟩ = some (.int .i64 (costV (insOf r (siteD r)) (growG (insOf r (siteD r)) b).1.fc))) (go_keep) (fail)
      go_wp2_with fail
      refine bodyPost_ret (v := .tuple #[.agg #[.int .i64 2, .string ⟨(planV (growG (insOf r (siteD r)) b).1.fc).toArray⟩, .int .i64 (costV (insOf r (siteD r)) (growG (insOf r (siteD r)) b).1.fc), .string ⟨(textT (growG (insOf r (siteD r)) b).1.L).toArray⟩], .int .i64 0]) (by simp [results, Tryz.results24, go_sem, z0, z1, z2, z3]) rfl ?_
      refine ⟨by rw [HVV.out.1, HVV.out.2, HAP.out.1, HAP.out.2]; rfl, HGT.out, ?_⟩
      first | exact ((((HB6.out.setCell (by exact Nat.le_refl _) _).setCell (by exact Nat.le_refl _) _).setCell (by exact Nat.le_refl _) _).setCell (by exact Nat.le_refl _) _) | exact ((((HB6.out.setCell (by exact Nat.le_refl _) _).setCell (by exact Nat.le_refl _) _).setCell (by exact Nat.le_refl _) _).setCell (by exact Nat.le_refl _) _).drew
    | true =>
      go_wp2_with fail
      go_region_held3 (fun w' => w'.cell? ⟨w3.heap.size + 1, 77, none⟩ = some (.string ⟨(planV (growG (insOf r (siteD r)) b).1.fc).toArray⟩) ∧ w'.cell? ⟨w3.heap.size + 1, 78, none⟩ = some (.int .i64 (costV (insOf r (siteD r)) (growG (insOf r (siteD r)) b).1.fc))) (go_keep) (fail)
      go_wp2_with fail
      refine bodyPost_ret (v := .tuple #[.agg #[.int .i64 1, .string ⟨(planV (growG (insOf r (siteD r)) b).1.fc).toArray⟩, .int .i64 (costV (insOf r (siteD r)) (growG (insOf r (siteD r)) b).1.fc), .string ⟨(textT (growG (insOf r (siteD r)) b).1.L).toArray⟩], .int .i64 0]) (by simp [results, Tryz.results24, go_sem, z0, z1, z2, z3]) rfl ?_
      refine ⟨by rw [HVV.out.1, HVV.out.2, HAP.out.1, HAP.out.2]; rfl, HGT.out, ?_⟩
      first | exact ((((HB6.out.setCell (by exact Nat.le_refl _) _).setCell (by exact Nat.le_refl _) _).setCell (by exact Nat.le_refl _) _).setCell (by exact Nat.le_refl _) _) | exact ((((HB6.out.setCell (by exact Nat.le_refl _) _).setCell (by exact Nat.le_refl _) _).setCell (by exact Nat.le_refl _) _).setCell (by exact Nat.le_refl _) _).drew
end Go.Proofs.YtebinaopncclgabGreatDoor
namespace Go.Proofs.YtebinaopncclgabGreatDoor
open Go.RowKit Go.IntWalk

def ansA (v : Int) (l : ByteArray) (c : Int) (t : ByteArray) : Value := .agg #[.int .i64 v, .string l, .int .i64 c, .string t]
theorem two_box (w : World) (c1 c2 : Array Value) (t1 t2 : TypeId) : Below w.heap.size w ((w.alloc (.cells c1 t1)).alloc (.cells c2 t2)) ∧ ((w.alloc (.cells c1 t1)).alloc (.cells c2 t2)).heap[w.heap.size]? = some (.cells c1 t1 (0, 0)) ∧ ((w.alloc (.cells c1 t1)).alloc (.cells c2 t2)).heap[w.heap.size + 1]? = some (.cells c2 t2 (0, 0)) := by
  refine ⟨below2 w _ _, ?_, ?_⟩
  · rw [Below.heap_alloc _ _ _ (by simp)]; exact heap_alloc_new w _
  · have h := heap_alloc_new (w.alloc (.cells c1 t1)) (.cells c2 t2)
    rw [show (w.alloc (.cells c1 t1)).heap.size = w.heap.size + 1 by simp] at h
    exact h

set_option maxRecDepth 100000 in
set_option maxHeartbeats 8000000 in
theorem told_any (R : Rd) (B : Nat) (v c : Int) (l t : ByteArray) (vs vr vw : Value) (w : World) (hok : RdOk R) (hs : w.ownsRow B 62 5 vs R.stops.length (ints R.stops.flatten)) (hr : w.ownsRow B 64 3 vr R.roads.length (ints R.roads.flatten)) (hq : SqR w vw (R.stops.length + 1) (siteD R))
    (hl : l.size ≤ 2000000) (ht : ShortT t) (hck : checkS R l.data.toList t.data.toList = (0, 0)) (hcase : (v = 2 ∧ l.data.toList = noneB ∧ c = 0) ∨ (v = 1 ∧ l.data.toList ≠ noneB ∧ ∃ S, drvS R (siteD R) l.data.toList = some (c, S))) :
    Calls Tryz.prog 14 #[inst R vs vr, vw, ansA v l c t] w fun e w' => e = .returned (.bool true) ∧ Below w.heap.size w w' := by
  have hp : parseS (⟨(textL R).toArray⟩ : ByteArray).data.toList = (R, 0, 0) := by show parseS (textL R).toArray.toList = _; simpa using parse_text hok
  have hsz : (⟨(textL R).toArray⟩ : ByteArray).size ≤ maxLen := by have := textL_length hok; show (textL R).toArray.size ≤ _; unfold maxLen; simp; omega
  have HSH : Hid (∀ W, Calls Tryz.prog 25 #[.string ⟨(textL R).toArray⟩, .string l, .string t] W fun e w' => e = .returned (.bool true) ∧ Below W.heap.size W w') := fun W => by
    refine (shows_ok ⟨(textL R).toArray⟩ l t R W hsz (by unfold maxLen; omega) ht hp hok).mono ?_
    rintro e w' ⟨h1, h2⟩
    exact ⟨by rw [h1]; simp [hck], h2⟩
  have HTX : Hid (∀ W, Below w.heap.size w W → Calls Tryz.prog 11 #[inst R vs vr, .int .i64 0] W fun e w' => e = .returned (.string ⟨(textL R).toArray⟩) ∧ Below W.heap.size W w') := fun W hW => text0_any B B R vs vr W hok.nice (own_below hs hW) (own_below hr hW)
  have HDR : Hid (∀ W, Below w.heap.size w W → Calls Tryz.prog 15 #[inst R vs vr, vw, .string l] W (DrvLeft W R.stops.length (drvS R (siteD R) l.data.toList))) := fun W hW => by
    obtain ⟨ar, cr, er, _, _⟩ := own_val hr
    exact driven_any R (siteD R) l vs vr vw W hok ((StR.own hs (fun s hs => (hok.nice.stops s hs).1)).below hW) (hq.below hW) (site_range hok) (by omega) ⟨_, _, _, er⟩
  obtain ⟨aos, caps, rfl, _, _⟩ := own_val hs
  obtain ⟨aor, capr, rfl, _, _⟩ := own_val hr
  obtain ⟨aw, cw, rfl, _, _⟩ := hq
  unfold inst ansA at *
  obtain ⟨W, hW⟩ : ∃ W, W = (w.alloc (.cells #[.int .i64 R.vans, .int .i64 R.load, .int .i64 R.close, .int .i64 R.nodes, .int .i64 R.home, .slice aos R.stops.length caps, .slice aor R.roads.length capr] 28)).alloc (.cells #[.int .i64 v, .string l, .int .i64 c, .string t] 35) := ⟨_, rfl⟩
  obtain ⟨hbW, hx1, hx2⟩ := two_box w #[.int .i64 R.vans, .int .i64 R.load, .int .i64 R.close, .int .i64 R.nodes, .int .i64 R.home, .slice aos R.stops.length caps, .slice aor R.roads.length capr] #[.int .i64 v, .string l, .int .i64 c, .string t] 28 35
  rw [← hW] at hbW hx1 hx2
  have HBW := hid hbW
  have HX2 := hid hx2
  have HX1 := hid hx1
  have l2 : w.heap.size + 1 < W.heap.size := (Array.getElem?_eq_some_iff.1 hx2).1
  have a0 : W.cell? ⟨w.heap.size + 1, 0, none⟩ = _ := cell_of_row W _ 0 _ _ _ hx2
  have a1 : W.cell? ⟨w.heap.size + 1, 1, none⟩ = _ := cell_of_row W _ 1 _ _ _ hx2
  have a2 : W.cell? ⟨w.heap.size + 1, 2, none⟩ = _ := cell_of_row W _ 2 _ _ _ hx2
  have a3 : W.cell? ⟨w.heap.size + 1, 3, none⟩ = _ := cell_of_row W _ 3 _ _ _ hx2
  obtain ⟨y0, y1, y2, y3, y4, y5, y6, _⟩ := seven hx1
  have l1 : w.heap.size < W.heap.size := by omega
  have HWQ := hid hW
  clear hs hr hok hW hbW hx1 hx2 hp hsz ht hck
  go_enter Tryz.func14, Tryz.ntmps14
  have HTW : Hid (∀ W', Below W.heap.size W W' → Calls Tryz.prog 11 #[.agg #[.int .i64 R.vans, .int .i64 R.load, .int .i64 R.close, .int .i64 R.nodes, .int .i64 R.home, .slice aos R.stops.length caps, .slice aor R.roads.length capr], .int .i64 0] W' fun e w' => e = .returned (.string ⟨(textL R).toArray⟩) ∧ (w'.cell? ⟨w.heap.size, 0, none⟩ = some (.int .i64 R.vans) ∧ w'.cell? ⟨w.heap.size, 1, none⟩ = some (.int .i64 R.load) ∧ w'.cell? ⟨w.heap.size, 2, none⟩ = some (.int .i64 R.close) ∧ w'.cell? ⟨w.heap.size, 3, none⟩ = some (.int .i64 R.nodes) ∧ w'.cell? ⟨w.heap.size, 4, none⟩ = some (.int .i64 R.home) ∧ w'.cell? ⟨w.heap.size, 5, none⟩ = some (.slice aos R.stops.length caps) ∧ w'.cell? ⟨w.heap.size, 6, none⟩ = some (.slice aor R.roads.length capr) ∧ w'.cell? ⟨w.heap.size + 1, 1, none⟩ = some (.string l) ∧ w'.cell? ⟨w.heap.size + 1, 3, none⟩ = some (.string t)) ∧ Hid (Below W.heap.size W w')) := fun W' hW' => by
    refine (HTX.out W' (HBW.out.trans (hW'.mono HBW.out.size))).mono ?_
    rintro e w' ⟨h1, h2⟩
    have h3 : Below W.heap.size W w' := hW'.trans (h2.mono hW'.size)
    exact ⟨h1, ⟨(h3.cell (by exact l1)).trans y0, (h3.cell (by exact l1)).trans y1, (h3.cell (by exact l1)).trans y2, (h3.cell (by exact l1)).trans y3, (h3.cell (by exact l1)).trans y4, (h3.cell (by exact l1)).trans y5, (h3.cell (by exact l1)).trans y6, (h3.cell (by exact l2)).trans a1, (h3.cell (by exact l2)).trans a3⟩, h3⟩
  have HSW : Hid (∀ W', Below W.heap.size W W' → Calls Tryz.prog 25 #[.string ⟨(textL R).toArray⟩, .string l, .string t] W' fun e w' => e = .returned (.bool true) ∧ (w'.cell? ⟨w.heap.size, 0, none⟩ = some (.int .i64 R.vans) ∧ w'.cell? ⟨w.heap.size, 1, none⟩ = some (.int .i64 R.load) ∧ w'.cell? ⟨w.heap.size, 2, none⟩ = some (.int .i64 R.close) ∧ w'.cell? ⟨w.heap.size, 3, none⟩ = some (.int .i64 R.nodes) ∧ w'.cell? ⟨w.heap.size, 4, none⟩ = some (.int .i64 R.home) ∧ w'.cell? ⟨w.heap.size, 5, none⟩ = some (.slice aos R.stops.length caps) ∧ w'.cell? ⟨w.heap.size, 6, none⟩ = some (.slice aor R.roads.length capr) ∧ w'.cell? ⟨w.heap.size + 1, 1, none⟩ = some (.string l) ∧ w'.cell? ⟨w.heap.size + 1, 3, none⟩ = some (.string t)) ∧ Hid (Below W.heap.size W w')) := fun W' hW' => by
    refine (HSH.out W').mono ?_
    rintro e w' ⟨h1, h2⟩
    have h3 : Below W.heap.size W w' := hW'.trans (h2.mono hW'.size)
    exact ⟨h1, ⟨(h3.cell (by exact l1)).trans y0, (h3.cell (by exact l1)).trans y1, (h3.cell (by exact l1)).trans y2, (h3.cell (by exact l1)).trans y3, (h3.cell (by exact l1)).trans y4, (h3.cell (by exact l1)).trans y5, (h3.cell (by exact l1)).trans y6, (h3.cell (by exact l2)).trans a1, (h3.cell (by exact l2)).trans a3⟩, h3⟩
  clear HTX HSH
  go_wp2_with fail
  rw [← HWQ.out]
  go_region_held3 (fun w' => w'.cell? ⟨w.heap.size, 0, none⟩ = some (.int .i64 R.vans) ∧ w'.cell? ⟨w.heap.size, 1, none⟩ = some (.int .i64 R.load) ∧ w'.cell? ⟨w.heap.size, 2, none⟩ = some (.int .i64 R.close) ∧ w'.cell? ⟨w.heap.size, 3, none⟩ = some (.int .i64 R.nodes) ∧ w'.cell? ⟨w.heap.size, 4, none⟩ = some (.int .i64 R.home) ∧ w'.cell? ⟨w.heap.size, 5, none⟩ = some (.slice aos R.stops.length caps) ∧ w'.cell? ⟨w.heap.size, 6, none⟩ = some (.slice aor R.roads.length capr) ∧ w'.cell? ⟨w.heap.size + 1, 1, none⟩ = some (.string l) ∧ w'.cell? ⟨w.heap.size + 1, 3, none⟩ = some (.string t)) (go_keep) (first | (go_at_call 11; refine (HTW.out _ (by first | exact Below.refl _ _ | exact (Below.refl _ _).drew)).mono ?_; rintro e3 w3 ⟨rfl, ⟨s0, s1, s2, s3, s4, s5, s6, s7, s8⟩, HB3⟩) | (go_at_call 25; refine (HSW.out _ (by first | exact HB3.out | exact HB3.out.drew)).mono ?_; rintro e4 w4 ⟨rfl, ⟨t0, t1, t2, t3, t4, t5, t6, t7, t8⟩, HB4⟩))
  have b0 : w4.cell? ⟨w.heap.size + 1, 0, none⟩ = _ := (HB4.out.cell (by exact l2)).trans a0
  have b2 : w4.cell? ⟨w.heap.size + 1, 2, none⟩ = _ := (HB4.out.cell (by exact l2)).trans a2
  have m1 : w.heap.size < w4.heap.size := Nat.lt_of_lt_of_le l1 HB4.out.size
  have m2 : w.heap.size + 1 < w4.heap.size := Nat.lt_of_lt_of_le l2 HB4.out.size
  have HBF : Hid (Below w.heap.size w w4) := HBW.out.trans (HB4.out.mono HBW.out.size)
  clear y0 y1 y2 y3 y4 y5 y6 a0 a1 a2 a3 s0 s1 s2 s3 s4 s5 s6 s7 s8 HTW HSW HB3
  rcases hcase with ⟨rfl, hln, rfl⟩ | ⟨rfl, hln, S, hS⟩
  · have z2 : (l.toList == [110, 111, 110, 101]) = true := by rw [tn_list, hln]; rfl
    clear hln
    go_wp2_with fail
    go_ret
    exact ⟨rfl, HBF.out⟩
  · have z2 : (l.toList == [110, 111, 110, 101]) = false := by rw [tn_list]; exact beq_eq_false_iff_ne.2 hln
    have HD4 := hid (HDR.out w4 HBF.out)
    rw [hS] at HD4
    clear hln hS HDR
    go_wp2_with fail
    refine HD4.out.mono ?_
    rintro e5 w5 ⟨_, h5, hb5⟩
    obtain ⟨v5, rfl, ho5, _⟩ := h5 c S rfl
    obtain ⟨a5, c5, rfl, _, _⟩ := own_val ho5
    have c0 : w5.cell? ⟨w.heap.size + 1, 0, none⟩ = _ := (hb5.cell (by exact m2)).trans b0
    have c1 : w5.cell? ⟨w.heap.size + 1, 1, none⟩ = _ := (hb5.cell (by exact m2)).trans t7
    have c2 : w5.cell? ⟨w.heap.size + 1, 2, none⟩ = _ := (hb5.cell (by exact m2)).trans b2
    have n2 : w.heap.size + 1 < w5.heap.size := Nat.lt_of_lt_of_le m2 hb5.size
    have HB5 : Hid (Below w.heap.size w w5) := HBF.out.trans (hb5.mono HBF.out.size)
    clear h5 hb5 ho5 HD4 b0 b2 t0 t1 t2 t3 t4 t5 t6 t7 t8
    go_wp2_with fail
    go_ret
    exact ⟨rfl, HB5.out⟩

set_option maxRecDepth 100000 in
set_option maxHeartbeats 8000000 in
theorem partial_any (R : Rd) (B : Nat) (c pc : Int) (l : ByteArray) (vs vr vw : Value) (w : World) (hok : RdOk R) (hs : w.ownsRow B 62 5 vs R.stops.length (ints R.stops.flatten)) (hr : w.ownsRow B 64 3 vr R.roads.length (ints R.roads.flatten)) (hq : SqR w vw (R.stops.length + 1) (siteD R))
    (hl : l.size ≤ 2000000) (hcase : (l.data.toList = noneB ∧ c = 0 ∧ pc = -1) ∨ (l.data.toList ≠ noneB ∧ pc = c ∧ ∃ S, drvS R (siteD R) l.data.toList = some (c, S))) :
    Calls Tryz.prog 18 #[inst R vs vr, vw, ansA 3 l c ⟨#[]⟩] w fun e w' => e = .returned (.tuple #[.int .i64 pc, .bool true]) ∧ Below w.heap.size w w' := by
  have HDR : Hid (∀ W, Below w.heap.size w W → Calls Tryz.prog 15 #[inst R vs vr, vw, .string l] W (DrvLeft W R.stops.length (drvS R (siteD R) l.data.toList))) := fun W hW => by
    obtain ⟨ar, cr, er, _, _⟩ := own_val hr
    exact driven_any R (siteD R) l vs vr vw W hok ((StR.own hs (fun s hs => (hok.nice.stops s hs).1)).below hW) (hq.below hW) (site_range hok) (by omega) ⟨_, _, _, er⟩
  obtain ⟨aos, caps, rfl, _, _⟩ := own_val hs
  obtain ⟨aor, capr, rfl, _, _⟩ := own_val hr
  obtain ⟨aw, cw, rfl, _, _⟩ := hq
  unfold inst ansA at *
  obtain ⟨W, hW⟩ : ∃ W, W = (w.alloc (.cells #[.int .i64 R.vans, .int .i64 R.load, .int .i64 R.close, .int .i64 R.nodes, .int .i64 R.home, .slice aos R.stops.length caps, .slice aor R.roads.length capr] 28)).alloc (.cells #[.int .i64 3, .string l, .int .i64 c, .string ⟨#[]⟩] 35) := ⟨_, rfl⟩
  obtain ⟨hbW, hx1, hx2⟩ := two_box w #[.int .i64 R.vans, .int .i64 R.load, .int .i64 R.close, .int .i64 R.nodes, .int .i64 R.home, .slice aos R.stops.length caps, .slice aor R.roads.length capr] #[.int .i64 3, .string l, .int .i64 c, .string ⟨#[]⟩] 28 35
  rw [← hW] at hbW hx1 hx2
  have HBW := hid hbW
  have l2 : w.heap.size + 1 < W.heap.size := (Array.getElem?_eq_some_iff.1 hx2).1
  have a0 : W.cell? ⟨w.heap.size + 1, 0, none⟩ = _ := cell_of_row W _ 0 _ _ _ hx2
  have a1 : W.cell? ⟨w.heap.size + 1, 1, none⟩ = _ := cell_of_row W _ 1 _ _ _ hx2
  have a2 : W.cell? ⟨w.heap.size + 1, 2, none⟩ = _ := cell_of_row W _ 2 _ _ _ hx2
  have a3 : W.cell? ⟨w.heap.size + 1, 3, none⟩ = _ := cell_of_row W _ 3 _ _ _ hx2
  obtain ⟨y0, y1, y2, y3, y4, y5, y6, _⟩ := seven hx1
  have l1 : w.heap.size < W.heap.size := by omega
  have HWQ := hid hW
  clear hs hr hok hW hbW hx1 hx2
  rcases hcase with ⟨hln, rfl, rfl⟩ | ⟨hln, rfl, S, hS⟩
  · have z2 : (l.toList == [110, 111, 110, 101]) = true := by rw [tn_list, hln]; rfl
    clear hln
    go_enter Tryz.func18, Tryz.ntmps18
    go_wp2_with fail
    rw [← HWQ.out]
    go_region
    all_goals
      go_wp2
      go_ret2
      exact ⟨rfl, by first | exact HBW.out | exact HBW.out.drew⟩
  · have z2 : (l.toList == [110, 111, 110, 101]) = false := by rw [tn_list]; exact beq_eq_false_iff_ne.2 hln
    have HD4 := hid (HDR.out W HBW.out)
    rw [hS] at HD4
    clear hln hS HDR
    go_enter Tryz.func18, Tryz.ntmps18
    go_wp2_with fail
    rw [← HWQ.out]
    refine HD4.out.mono ?_
    rintro e5 w5 ⟨_, h5, hb5⟩
    obtain ⟨v5, rfl, ho5, _⟩ := h5 pc S rfl
    obtain ⟨a5, c5, rfl, _, _⟩ := own_val ho5
    have c2 : w5.cell? ⟨w.heap.size + 1, 2, none⟩ = _ := (hb5.cell (by exact l2)).trans a2
    have n2 : w.heap.size + 1 < w5.heap.size := Nat.lt_of_lt_of_le l2 hb5.size
    have HB5 : Hid (Below w.heap.size w w5) := HBW.out.trans (hb5.mono HBW.out.size)
    clear h5 hb5 ho5 HD4 a0 a1 a2 a3 y0 y1 y2 y3 y4 y5 y6
    go_wp2_with fail
    go_region
    all_goals
      go_wp2
      go_ret2
      exact ⟨rfl, by first | exact HB5.out | exact HB5.out.drew⟩

theorem cnt_take {s : ByteArray} {k : Nat} (h : k < s.size) : (s.data.toList.take (k + 1)).count 10 = (s.data.toList.take k).count 10 + (if s[k] = 10 then 1 else 0) := by
  rw [take_snoc s k h, List.count_append]
  congr 1
  by_cases e : s[k] = 10
  · rw [if_pos e, e]; rfl
  · rw [if_neg e]; exact List.count_eq_zero.2 (by simpa using fun h => e h.symm)
set_option maxRecDepth 100000 in
set_option maxHeartbeats 4000000 in
theorem klines_any (s : ByteArray) (w : World) (hs : s.size ≤ 9000000000000000000) : Calls Tryz.prog 16 #[.string s] w fun e w' => e = .returned (.int .i64 (s.data.toList.count 10 : Nat)) ∧ w' = w := by
  go_enter Tryz.func16, Tryz.ntmps16
  go_wp2_with fail
  go_loopw [3, 4] (fun nv i wr => ∃ k q : Nat, k ≤ s.size ∧ q ≤ k ∧ i = .int .i64 k ∧ nv = .int .i64 q ∧ Hid (q = (s.data.toList.take k).count 10) ∧ wr = w) (fun _ i _ => s.size - (intOf i).toNat)
  case atStart => exact ⟨0, 0, Nat.zero_le _, Nat.le_refl _, rfl, rfl, rfl, rfl⟩
  case round =>
    obtain ⟨k, q, hk, hq, rfl, rfl, HQ, rfl⟩ := hrel
    by_cases hlt : k < s.size
    · have HC := hid (cnt_take hlt)
      have hb : s[k].toNat < 256 := s[k].toNat_lt
      by_cases hc : s[k] = 10
      · rw [if_pos hc] at HC
        have hc2 : s[k].toNat = 10 := by rw [hc]; rfl
        have e1 : ((s[k].toNat : Int) == 10) = true := by simp [hc2]
        clear hc hc2
        go_wp2_with go_in
        go_roundw
        case rel => exact ⟨k + 1, q + 1, by omega, by omega, by go_num, by go_num, by show _ = _; rw [HC.out, HQ.out], trivial⟩
        case measure => simp [intOf]; omega
      · rw [if_neg hc] at HC
        have hc2 : s[k].toNat ≠ 10 := fun h => hc (UInt8.toNat_inj.1 (by rw [h]; rfl))
        have e1 : ((s[k].toNat : Int) == 10) = false := by simp; omega
        clear hc hc2
        go_wp2_with go_in
        go_roundw
        case rel => exact ⟨k + 1, q, by omega, by omega, by go_num, rfl, by show _ = _; rw [HC.out, HQ.out]; rfl, trivial⟩
        case measure => simp [intOf]; omega
    · have HF : Hid (s.data.toList.count 10 = q) := by show _ = _; rw [HQ.out, List.take_of_length_le (by simp; omega)]
      go_wp2_with go_in
      go_ret
      refine ⟨?_, rfl⟩
      rw [HF.out]; rfl
end Go.Proofs.YtebinaopncclgabGreatDoor
namespace Go.Proofs.YtebinaopncclgabGreatDoor
open Go.RowKit Go.IntWalk

theorem plan_short_len {r : Rd} (hok : RdOk r) {R : RoutesQ} (hp : PlanQ (insOf r (siteD r)) R) : (planB R).length ≤ 100 := by
  have h1 := planB_len (R := R)
  have h2 := hp.count
  have h3 := hp.few
  have hn := hok.nstops
  have hv := insVans hok
  have h4 : R.flatten.length = r.stops.length := h2
  omega
theorem ans_plan {r : Rd} (hok : RdOk r) {fc : Option RoutesQ} (hp : ∀ R, fc = some R → PlanQ (insOf r (siteD r)) R) :
    (planV fc).length ≤ 100 ∧ ((fc = none ∧ planV fc = noneB ∧ costV (insOf r (siteD r)) fc = 0) ∨ (fc.isSome = true ∧ planV fc ≠ noneB ∧ ∃ S, drvS r (siteD r) (planV fc) = some (costV (insOf r (siteD r)) fc, S))) := by
  cases fc with
  | none => exact ⟨by simp [planV], .inl ⟨rfl, rfl, rfl⟩⟩
  | some R =>
    have h := hp R rfl
    obtain ⟨S, hj⟩ := plan_judge hok h
    exact ⟨plan_short_len hok h, .inr ⟨rfl, planB_none (planQ_low hok h), S, drv_of hok hj⟩⟩
structure AnsFin (r : Rd) (b : Nat) : Prop where
  size : (ansP (insOf r (siteD r)) b).length ≤ 100
  short : ShortT ⟨(ansT (insOf r (siteD r)) b).toArray⟩
  check : checkS r (ansP (insOf r (siteD r)) b) (ansT (insOf r (siteD r)) b) = (0, 0)
  case_ : (ansV (insOf r (siteD r)) b = 2 ∧ ansP (insOf r (siteD r)) b = noneB ∧ ansC (insOf r (siteD r)) b = 0) ∨ (ansV (insOf r (siteD r)) b = 1 ∧ ansP (insOf r (siteD r)) b ≠ noneB ∧ ∃ S, drvS r (siteD r) (ansP (insOf r (siteD r)) b) = some (ansC (insOf r (siteD r)) b, S))
  lines : (ansT (insOf r (siteD r)) b).count 10 = (growG (insOf r (siteD r)) b).1.L.length
theorem ans_fin {r : Rd} (hok : RdOk r) {b : Nat} (hg : GoodTo (insOf r (siteD r)) b) (hd : (growG (insOf r (siteD r)) b).2 = true) : AnsFin r b := by
  obtain ⟨hse, _⟩ := (grw_inv (insFine hok) hok.nstops (insVans hok).1 (insVans hok).2 b hg).2 hd
  have hT : ansT (insOf r (siteD r)) b = textT (growG (insOf r (siteD r)) b).1.L := by unfold ansT; rw [if_pos hd]
  have hV : ansV (insOf r (siteD r)) b = if (growG (insOf r (siteD r)) b).1.fc.isSome = true then 1 else 2 := by unfold ansV; rw [if_pos hd]
  obtain ⟨h1, h2⟩ := text_len (tree_nodes _ 1 hse.tree)
  have h3 := hse.len
  have h4 := bq_bound
  obtain ⟨h5, h6⟩ := ans_plan hok hse.plan
  refine ⟨h5, ⟨?_, ?_⟩, ?_, ?_, ?_⟩
  · show (ansT (insOf r (siteD r)) b).toArray.size ≤ _
    rw [List.size_toArray, hT]; omega
  · show ((ansT (insOf r (siteD r)) b).toArray.toList).count 10 ≤ _
    rw [List.toList_toArray, hT, h2]; omega
  · rw [hT]; exact end_check hok hse
  · rw [hV]
    rcases h6 with ⟨k1, k2, k3⟩ | ⟨k1, k2, S, k3⟩
    · exact .inl ⟨by rw [k1]; rfl, k2, k3⟩
    · exact .inr ⟨by rw [k1]; rfl, k2, S, k3⟩
  · rw [hT]; exact h2

set_option maxRecDepth 100000 in
set_option maxHeartbeats 2000000 in
theorem dsolve_ok (s : ByteArray) (r : Rd) (B b : Nat) (w : World) (hs : s.size ≤ maxLen) (hp : parseS s.data.toList = (r, 0, 0)) (hok : RdOk r) (hb : b ≤ 144115188075855872) (hT : TabX B w) (hB : B ≤ w.heap.size) :
    Calls Tryz.prog 13 #[.string s, .int .i64 b] w fun e w' => e = .returned (.tuple #[ansA (ansV (insOf r (siteD r)) b) ⟨(ansP (insOf r (siteD r)) b).toArray⟩ (ansC (insOf r (siteD r)) b) ⟨(ansT (insOf r (siteD r)) b).toArray⟩, .int .i64 0]) ∧ GoodTo (insOf r (siteD r)) b ∧ Below w.heap.size w w' := by
  have HC : Hid (∀ W, Below w.heap.size w W → Calls Tryz.prog 24 #[.string s, .int .i64 b] W fun e w' => e = .returned (.tuple #[.agg #[.int .i64 (ansV (insOf r (siteD r)) b), .string ⟨(ansP (insOf r (siteD r)) b).toArray⟩, .int .i64 (ansC (insOf r (siteD r)) b), .string ⟨(ansT (insOf r (siteD r)) b).toArray⟩], .int .i64 0]) ∧ GoodTo (insOf r (siteD r)) b ∧ Below W.heap.size W w') := fun W hW => solve_ok s r B b W hs hp hok hb (hT.on hW hB) (Nat.le_trans hB hW.size)
  clear hp hok hT
  unfold ansA
  generalize ansV (insOf r (siteD r)) b = v at *
  generalize ansP (insOf r (siteD r)) b = pl at *
  generalize ansC (insOf r (siteD r)) b = c at *
  generalize ansT (insOf r (siteD r)) b = tx at *
  go_enter Tryz.func13, Tryz.ntmps13
  go_wp2_with fail
  refine (HC.out _ (below1 w _)).mono ?_
  rintro e1 w1 ⟨rfl, hg1, hb1⟩
  have hbx : w1.heap[w.heap.size]? = some (.cells #[.int .i64 0, .string ⟨#[]⟩, .int .i64 0, .string ⟨#[]⟩] 35 (0, 0)) := (hb1.block _ (by simp)).trans (heap_alloc_new w _)
  have y0 : w1.cell? ⟨w.heap.size, 0, none⟩ = _ := cell_of_row w1 _ 0 _ _ _ hbx
  have y1 : w1.cell? ⟨w.heap.size, 1, none⟩ = _ := cell_of_row w1 _ 1 _ _ _ hbx
  have y2 : w1.cell? ⟨w.heap.size, 2, none⟩ = _ := cell_of_row w1 _ 2 _ _ _ hbx
  have y3 : w1.cell? ⟨w.heap.size, 3, none⟩ = _ := cell_of_row w1 _ 3 _ _ _ hbx
  have ly : w.heap.size < w1.heap.size := (Array.getElem?_eq_some_iff.1 hbx).1
  have f0 := frozen_of_row w1 w.heap.size 0 _ _ hbx
  have f1 := frozen_of_row w1 w.heap.size 1 _ _ hbx
  have f2 := frozen_of_row w1 w.heap.size 2 _ _ hbx
  have f3 := frozen_of_row w1 w.heap.size 3 _ _ hbx
  have HG := hid hg1
  have HB1 : Hid (Below w.heap.size w w1) := (below1 w _).trans (hb1.mono (by simp))
  clear hg1 hb1 hbx HC
  go_wp2_with fail
  refine bodyPost_ret (v := .tuple #[.agg #[.int .i64 v, .string ⟨pl.toArray⟩, .int .i64 c, .string ⟨tx.toArray⟩], .int .i64 0]) (by simp [results, Tryz.results13, go_sem, y0, y1, y2, y3]) rfl ?_
  exact ⟨rfl, HG.out, (((HB1.out.setCell (by exact Nat.le_refl _) _).setCell (by exact Nat.le_refl _) _).setCell (by exact Nat.le_refl _) _).setCell (by exact Nat.le_refl _) _⟩

theorem YIs.sq {w : World} {yb B : Nat} {r : Rd} {vs vr : Value} (h : YIs w yb B r vs vr) (hok : RdOk r) : StR w vs r := StR.own h.stops (fun s hs => (hok.nice.stops s hs).1)
end Go.Proofs.YtebinaopncclgabGreatDoor
namespace Go.Proofs.YtebinaopncclgabGreatDoor
open Go.RowKit Go.IntWalk

theorem sum_pos : ∀ (l : List Int), (∀ x ∈ l, 0 ≤ x) → 0 ≤ l.sum := by
  intro l
  induction l with
  | nil => intro _; simp
  | cons a l ih =>
    intro h
    have h1 := ih fun x hx => h x (by simp [hx])
    have h2 := h a (by simp)
    rw [List.sum_cons]; omega
theorem cost_pos {I : Ins} (hI : InsOk I) {R : RoutesQ} (h : PlanQ I R) : 0 ≤ costQ I R := by
  unfold costQ sumA
  refine sum_pos _ fun x hx => ?_
  obtain ⟨p, hp, rfl⟩ := List.mem_map.1 hx
  have h1 := arcs_range h p hp
  have h2 := hI.D p.1 p.2 h1.1 h1.2
  have h3 := h.way p hp
  omega
def pcV (I : Ins) : Option RoutesQ → Int
  | none => -1
  | some R => costQ I R
noncomputable def ansQ (I : Ins) (b : Nat) : Int := pcV I (growG I b).1.fc
theorem ans_same {I : Ins} {m b : Nat} (h : growG I m = growG I b) : ansV I m = ansV I b ∧ ansP I m = ansP I b ∧ ansC I m = ansC I b ∧ ansT I m = ansT I b := by
  unfold ansV ansP ansC ansT
  rw [h]; exact ⟨rfl, rfl, rfl, rfl⟩
structure BudEnd (r : Rd) (b N : Nat) : Prop where
  pos : 1 ≤ N
  le : N ≤ b
  low : N ≤ 90000000000
  same : ∀ m, N ≤ m → growG (insOf r (siteD r)) m = growG (insOf r (siteD r)) b
  spent : ∀ j, j < N → (growG (insOf r (siteD r)) j).2 = false
theorem bud_end {r : Rd} (hok : RdOk r) {b : Nat} (hg : GoodTo (insOf r (siteD r)) b) (hd : (growG (insOf r (siteD r)) b).2 = true) : BudEnd r b (growG (insOf r (siteD r)) b).1.L.length := by
  obtain ⟨hse, h1, h2, h3, h4⟩ := (grw_inv (insFine hok) hok.nstops (insVans hok).1 (insVans hok).2 b hg).2 hd
  have h5 := hse.len
  have h6 := bq_bound
  exact ⟨h2, h1, by omega, fun m hm => by rw [← h3]; exact grw_stay (by rw [h3]; exact hd) m hm, h4⟩
structure PartOk (r : Rd) (j : Nat) : Prop where
  v : ansV (insOf r (siteD r)) j = 3
  t : ansT (insOf r (siteD r)) j = []
  size : (ansP (insOf r (siteD r)) j).length ≤ 100
  case_ : (ansP (insOf r (siteD r)) j = noneB ∧ ansC (insOf r (siteD r)) j = 0 ∧ ansQ (insOf r (siteD r)) j = -1) ∨ (ansP (insOf r (siteD r)) j ≠ noneB ∧ ansQ (insOf r (siteD r)) j = ansC (insOf r (siteD r)) j ∧ ∃ S, drvS r (siteD r) (ansP (insOf r (siteD r)) j) = some (ansC (insOf r (siteD r)) j, S))
theorem part_ok {r : Rd} (hok : RdOk r) {j : Nat} (hg : GoodTo (insOf r (siteD r)) j) (hd : (growG (insOf r (siteD r)) j).2 = false) : PartOk r j := by
  obtain ⟨hi, _⟩ := (grw_inv (insFine hok) hok.nstops (insVans hok).1 (insVans hok).2 j hg).1 hd
  obtain ⟨h1, h2⟩ := ans_plan hok hi.plan
  refine ⟨by unfold ansV; rw [hd]; rfl, by unfold ansT; rw [hd]; rfl, h1, ?_⟩
  rcases h2 with ⟨k1, k2, k3⟩ | ⟨k1, k2, S, k3⟩
  · exact .inl ⟨k2, k3, by unfold ansQ; rw [k1]; rfl⟩
  · refine .inr ⟨k2, ?_, S, k3⟩
    unfold ansQ ansC
    cases hf : (growG (insOf r (siteD r)) j).1.fc with
    | none => rw [hf] at k1; cases k1
    | some R => rfl
theorem part_plan {r : Rd} (hok : RdOk r) {j : Nat} (hg : GoodTo (insOf r (siteD r)) j) {R : RoutesQ} (h : (growG (insOf r (siteD r)) j).1.fc = some R) : PlanQ (insOf r (siteD r)) R := by
  obtain ⟨h1, h2⟩ := grw_inv (insFine hok) hok.nstops (insVans hok).1 (insVans hok).2 j hg
  cases hd : (growG (insOf r (siteD r)) j).2 with
  | false => exact (h1 hd).1.plan R h
  | true => exact (h2 hd).1.plan R h
theorem part_less {r : Rd} (hok : RdOk r) {k j : Nat} (hkj : k ≤ j) (hg : GoodTo (insOf r (siteD r)) j) : ansQ (insOf r (siteD r)) k = -1 ∨ (ansQ (insOf r (siteD r)) j ≠ -1 ∧ ansQ (insOf r (siteD r)) j ≤ ansQ (insOf r (siteD r)) k) := by
  cases hf : (growG (insOf r (siteD r)) k).1.fc with
  | none => exact .inl (by unfold ansQ; rw [hf]; rfl)
  | some R =>
    obtain ⟨R', h1, h2⟩ := grw_less (insFine hok) hok.nstops (insVans hok).1 (insVans hok).2 j hkj hg R hf
    have h3 := cost_pos (insFine hok) (part_plan hok hg h1)
    refine .inr ?_
    unfold ansQ
    rw [hf, h1]
    show costQ (insOf r (siteD r)) R' ≠ -1 ∧ costQ (insOf r (siteD r)) R' ≤ costQ (insOf r (siteD r)) R
    omega
theorem part_best {r : Rd} (hok : RdOk r) {j b : Nat} (hjb : j ≤ b) (hg : GoodTo (insOf r (siteD r)) b) (hd : (growG (insOf r (siteD r)) b).2 = true) : ansQ (insOf r (siteD r)) j = -1 ∨ (ansV (insOf r (siteD r)) b = 1 ∧ ansC (insOf r (siteD r)) b ≤ ansQ (insOf r (siteD r)) j) := by
  cases hf : (growG (insOf r (siteD r)) j).1.fc with
  | none => exact .inl (by unfold ansQ; rw [hf]; rfl)
  | some R =>
    obtain ⟨R', h1, h2⟩ := grw_less (insFine hok) hok.nstops (insVans hok).1 (insVans hok).2 b hjb hg R hf
    refine .inr ⟨by unfold ansV; rw [hd, h1]; rfl, ?_⟩
    unfold ansQ ansC
    rw [hf, h1]; exact h2
set_option maxHeartbeats 800000 in
theorem bent_big (n lo hi : Int) (w : World) (hn1 : -9223372036854775808 ≤ n) (hn2 : n ≤ 9223372036854775807) (hlo : -1 ≤ lo) (hh : lo ≤ hi) (hhi : hi ≤ 144115188075855872) :
    Calls Tryz.prog 17 #[.int .i64 n, .int .i64 lo, .int .i64 hi] w fun e w' => e = .returned (.int .i64 (bentS n lo hi)) ∧ w' = w := by
  have hm : ∀ x : Int, 0 ≤ x % (hi - lo + 1) ∧ x % (hi - lo + 1) < hi - lo + 1 := fun x => ⟨Int.emod_nonneg x (by omega), Int.emod_lt_of_pos x (by omega)⟩
  have HM : Hid (∀ x : Int, 0 ≤ x % (hi - lo + 1) ∧ x % (hi - lo + 1) < hi - lo + 1) := hm
  clear hm
  go_enter Tryz.func17, Tryz.ntmps17
  go_wp2
  · go_ret
    exact ⟨ret_int (by unfold bentS; rw [if_pos (by omega)]), rfl⟩
  · go_ret
    exact ⟨ret_int (by unfold bentS; rw [if_neg (by omega), if_neg (by omega)]; exact wrap64_in _ (by have := HM.out n; omega)), rfl⟩
  · go_ret
    refine ⟨ret_int ?_, rfl⟩
    unfold bentS; rw [if_neg (by omega), if_pos (by omega)]
    rw [show (-(n + 1).tmod (hi - lo + 1)) = (-(n + 1)) % (hi - lo + 1) from by rw [← Int.neg_tmod]; exact Int.tmod_eq_emod_of_nonneg (by omega)]
    exact wrap64_in _ (by have := HM.out (-(n + 1)); omega)
  · go_ret
    exact ⟨ret_int (by unfold bentS; rw [if_neg (by omega), if_neg (by omega)]; exact wrap64_in _ (by have := HM.out n; omega)), rfl⟩
end Go.Proofs.YtebinaopncclgabGreatDoor
namespace Go.Proofs.YtebinaopncclgabGreatDoor
open Go.RowKit Go.IntWalk

set_option maxRecDepth 100000 in
set_option maxHeartbeats 8000000 in
theorem budgets_walk (X : Nat → Int) (S T : Nat → Nat → Int) (aS aR : Option Addr) (n m cn cm : Nat) (sm mo : Int) (w : World) (hTab : TabX w.heap.size w) (hX : ∀ i, i < 5 → -9223372036854775808 ≤ X i ∧ X i ≤ 9223372036854775807) (hn : n ≤ 9223372036854775807) (hm : m ≤ 9223372036854775807)
    (hS : Came w aS n 5 S) (hT : Came w aR m 3 T) (hsm : -9223372036854775808 ≤ sm ∧ sm ≤ 9223372036854775807) (hmo : -9223372036854775808 ≤ mo ∧ mo ≤ 9223372036854775807) :
    Calls Tryz.prog 7 #[.agg #[.int .i64 (X 0), .int .i64 (X 1), .int .i64 (X 2), .int .i64 (X 3), .int .i64 (X 4), .slice aS n cn, .slice aR m cm], .int .i64 sm, .int .i64 mo] w fun e w' => e = .returned (.bool true) ∧ Below w.heap.size w w' := by
  have hcB := fun W (hW : Below w.heap.size w W) => Bent_any X S T aS aR n m cn cm W hX hn hm (came_below hS hW) (came_below hT hW)
  have HCB := hide hcB
  have HOK := hide (bentR_ok X S T n m)
  have HTAB := hid hTab
  clear hcB hX hS hT hTab
  generalize bentR X S T n m = R at *
  have hns := HOK.out.nstops
  have hp : parseS (⟨(textL R).toArray⟩ : ByteArray).data.toList = (R, 0, 0) := by show parseS (textL R).toArray.toList = _; simpa using parse_text HOK.out
  have hsz : (⟨(textL R).toArray⟩ : ByteArray).size ≤ maxLen := by have := textL_length HOK.out; show (textL R).toArray.size ≤ _; unfold maxLen; simp; omega
  obtain ⟨b, hbe⟩ : ∃ b : Nat, b = 144115188075855872 := ⟨_, rfl⟩
  have hbI : ((b : Nat) : Int) = 144115188075855872 := by omega
  have HSO : Hid (∀ W, Below w.heap.size w W → Calls Tryz.prog 13 #[.string ⟨(textL R).toArray⟩, .int .i64 144115188075855872] W fun e w' => e = .returned (.tuple #[ansA (ansV (insOf R (siteD R)) b) ⟨(ansP (insOf R (siteD R)) b).toArray⟩ (ansC (insOf R (siteD R)) b) ⟨(ansT (insOf R (siteD R)) b).toArray⟩, .int .i64 0]) ∧ GoodTo (insOf R (siteD R)) b ∧ Below W.heap.size W w') := fun W hW =>
    by rw [← hbI]; exact dsolve_ok ⟨(textL R).toArray⟩ R w.heap.size b W hsz hp HOK.out (by omega) (HTAB.out.on hW (Nat.le_refl _)) hW.size
  have HFN : Hid (GoodTo (insOf R (siteD R)) b → AnsFin R b) := fun h => ans_fin HOK.out h (grw_ends (insFine HOK.out) hns (insVans HOK.out).1 (insVans HOK.out).2 (by omega) h)
  have HTD : Hid (∀ (vs vr vw : Value) (W : World), AnsFin R b → W.ownsRow w.heap.size 62 5 vs R.stops.length (ints R.stops.flatten) → W.ownsRow w.heap.size 64 3 vr R.roads.length (ints R.roads.flatten) → SqR W vw (R.stops.length + 1) (siteD R) → Calls Tryz.prog 14 #[inst R vs vr, vw, ansA (ansV (insOf R (siteD R)) b) ⟨(ansP (insOf R (siteD R)) b).toArray⟩ (ansC (insOf R (siteD R)) b) ⟨(ansT (insOf R (siteD R)) b).toArray⟩] W fun e w' => e = .returned (.bool true) ∧ Below W.heap.size W w') := fun vs vr vw W hf h1 h2 h3 => by
    refine told_any R w.heap.size _ _ _ _ vs vr vw W HOK.out h1 h2 h3 ?_ hf.short ?_ ?_
    · show (ansP (insOf R (siteD R)) b).toArray.size ≤ _
      have := hf.size
      rw [List.size_toArray]; omega
    · show checkS R (ansP (insOf R (siteD R)) b).toArray.toList (ansT (insOf R (siteD R)) b).toArray.toList = _
      rw [List.toList_toArray, List.toList_toArray]; exact hf.check
    · show (_ ∧ (ansP (insOf R (siteD R)) b).toArray.toList = _ ∧ _) ∨ (_ ∧ (ansP (insOf R (siteD R)) b).toArray.toList ≠ _ ∧ ∃ S, drvS R (siteD R) (ansP (insOf R (siteD R)) b).toArray.toList = _)
      rw [List.toList_toArray]; exact hf.case_
  have HSA : Hid (GoodTo (insOf R (siteD R)) b → ∀ W m, BudEnd R b (growG (insOf R (siteD R)) b).1.L.length → (growG (insOf R (siteD R)) b).1.L.length ≤ m → m ≤ b → Below w.heap.size w W → Calls Tryz.prog 13 #[.string ⟨(textL R).toArray⟩, .int .i64 (m : Nat)] W fun e w' => e = .returned (.tuple #[ansA (ansV (insOf R (siteD R)) b) ⟨(ansP (insOf R (siteD R)) b).toArray⟩ (ansC (insOf R (siteD R)) b) ⟨(ansT (insOf R (siteD R)) b).toArray⟩, .int .i64 0]) ∧ Below W.heap.size W w') := fun hg W m hbe h1 h2 hW => by
    refine (dsolve_ok ⟨(textL R).toArray⟩ R w.heap.size m W hsz hp HOK.out (by omega) (HTAB.out.on hW (Nat.le_refl _)) hW.size).mono ?_
    rintro e w' ⟨k1, _, k2⟩
    obtain ⟨q1, q2, q3, q4⟩ := ans_same (hbe.same m h1)
    rw [q1, q2, q3, q4] at k1
    exact ⟨k1, k2⟩
  have HSJ : Hid (GoodTo (insOf R (siteD R)) b → ∀ W j, BudEnd R b (growG (insOf R (siteD R)) b).1.L.length → j < (growG (insOf R (siteD R)) b).1.L.length → Below w.heap.size w W → Calls Tryz.prog 13 #[.string ⟨(textL R).toArray⟩, .int .i64 (j : Nat)] W fun e w' => e = .returned (.tuple #[ansA 3 ⟨(ansP (insOf R (siteD R)) j).toArray⟩ (ansC (insOf R (siteD R)) j) ⟨#[]⟩, .int .i64 0]) ∧ Below W.heap.size W w') := fun hg W j hbe h1 hW => by
    refine (dsolve_ok ⟨(textL R).toArray⟩ R w.heap.size j W hsz hp HOK.out (by have := hbe.le; omega) (HTAB.out.on hW (Nat.le_refl _)) hW.size).mono ?_
    rintro e w' ⟨k1, k3, k2⟩
    have hpo := part_ok HOK.out k3 (hbe.spent j h1)
    rw [hpo.v, hpo.t] at k1
    exact ⟨k1, k2⟩
  have HPJ : Hid (GoodTo (insOf R (siteD R)) b → ∀ (vs vr vw : Value) (W : World) (j : Nat), BudEnd R b (growG (insOf R (siteD R)) b).1.L.length → j < (growG (insOf R (siteD R)) b).1.L.length → W.ownsRow w.heap.size 62 5 vs R.stops.length (ints R.stops.flatten) → W.ownsRow w.heap.size 64 3 vr R.roads.length (ints R.roads.flatten) → SqR W vw (R.stops.length + 1) (siteD R) → Calls Tryz.prog 18 #[inst R vs vr, vw, ansA 3 ⟨(ansP (insOf R (siteD R)) j).toArray⟩ (ansC (insOf R (siteD R)) j) ⟨#[]⟩] W fun e w' => e = .returned (.tuple #[.int .i64 (ansQ (insOf R (siteD R)) j), .bool true]) ∧ Below W.heap.size W w') := fun hg vs vr vw W j hbe h1 k1 k2 k3 => by
    have hpo := part_ok HOK.out (hg.le (by have := hbe.le; omega)) (hbe.spent j h1)
    refine partial_any R w.heap.size _ _ _ vs vr vw W HOK.out k1 k2 k3 ?_ ?_
    · show (ansP (insOf R (siteD R)) j).toArray.size ≤ _
      have := hpo.size
      rw [List.size_toArray]; omega
    · show ((ansP (insOf R (siteD R)) j).toArray.toList = _ ∧ _ ∧ _) ∨ ((ansP (insOf R (siteD R)) j).toArray.toList ≠ _ ∧ _ ∧ ∃ S, drvS R (siteD R) (ansP (insOf R (siteD R)) j).toArray.toList = _)
      rw [List.toList_toArray]; exact hpo.case_
  have HBE : Hid (GoodTo (insOf R (siteD R)) b → BudEnd R b (growG (insOf R (siteD R)) b).1.L.length) := fun hg => bud_end HOK.out hg (grw_ends (insFine HOK.out) hns (insVans HOK.out).1 (insVans HOK.out).2 (by omega) hg)
  have HLE : Hid (GoodTo (insOf R (siteD R)) b → ∀ k j, k ≤ j → j ≤ b → ansQ (insOf R (siteD R)) k = -1 ∨ (ansQ (insOf R (siteD R)) j ≠ -1 ∧ ansQ (insOf R (siteD R)) j ≤ ansQ (insOf R (siteD R)) k)) := fun hg k j h1 h2 => part_less HOK.out h1 (hg.le h2)
  have HBB : Hid (GoodTo (insOf R (siteD R)) b → ∀ j, j ≤ b → ansQ (insOf R (siteD R)) j = -1 ∨ (ansV (insOf R (siteD R)) b = 1 ∧ ansC (insOf R (siteD R)) b ≤ ansQ (insOf R (siteD R)) j)) := fun hg j h1 => part_best HOK.out h1 hg (grw_ends (insFine HOK.out) hns (insVans HOK.out).1 (insVans HOK.out).2 (by omega) hg)
  have HLN : Hid (AnsFin R b → (ansT (insOf R (siteD R)) b).count 10 = (growG (insOf R (siteD R)) b).1.L.length ∧ (ansT (insOf R (siteD R)) b).length ≤ 70368744177664) := fun hf => ⟨hf.lines, by have h := hf.short.1; have h2 : (⟨(ansT (insOf R (siteD R)) b).toArray⟩ : ByteArray).size = (ansT (insOf R (siteD R)) b).length := by { show (ansT (insOf R (siteD R)) b).toArray.size = _; rw [List.size_toArray] }; omega⟩
  unfold ansA at *
  generalize ansV (insOf R (siteD R)) b = av at *
  generalize ansP (insOf R (siteD R)) b = ap at *
  generalize ansC (insOf R (siteD R)) b = ac at *
  generalize ansT (insOf R (siteD R)) b = at_ at *
  generalize (growG (insOf R (siteD R)) b).1.L.length = N at *
  generalize hlp : ansP (insOf R (siteD R)) = lp at *
  generalize hlc : ansC (insOf R (siteD R)) = lc at *
  generalize hlq : ansQ (insOf R (siteD R)) = lq at *
  have hb57 : b = 144115188075855872 := hbe
  clear hp hsz hbe hlp hlc hlq
  go_enter Tryz.func7, Tryz.ntmps7
  go_wp2_with fail
  refine (HCB.out _ (below1 w _)).mono ?_
  rintro e1 w1 ⟨vs, vr, rfl, hos, hor, hb1⟩
  obtain ⟨aos, caps, rfl, has, hsn⟩ := own_val hos
  obtain ⟨aor, capr, rfl, har, hrn⟩ := own_val hor
  unfold inst
  have HB1 : Hid (Below w.heap.size w w1) := (below1 w _).trans (hb1.mono (by simp))
  have HOS := hide (own_base hos (show w.heap.size ≤ _ by simp))
  have HOR := hide (own_base hor (show w.heap.size ≤ _ by simp))
  have hbz := HB1.out.size
  have HY : Hid (YIs (w1.alloc (.cells (yCells R (.slice aos R.stops.length caps) (.slice aor R.roads.length capr)) 28)) w1.heap.size w.heap.size R (.slice aos R.stops.length caps) (.slice aor R.roads.length capr)) := y_new HOS.out HOR.out
  have HWY : Hid (Below w.heap.size w (w1.alloc (.cells (yCells R (.slice aos R.stops.length caps) (.slice aor R.roads.length capr)) 28))) := HB1.out.alloc hbz _
  clear hos hor hb1 has hsn har hrn HCB HOS HOR
  have HT3 := hid (text0_any w.heap.size w.heap.size R (.slice aos R.stops.length caps) (.slice aor R.roads.length capr) _ HOK.out.nice HY.out.stops HY.out.roads)
  unfold inst yCells at HT3
  go_wp2_with fail
  refine HT3.out.mono ?_
  rintro e2 w2 ⟨rfl, hb2⟩
  have HY2 := hide (HY.out.below hb2)
  have HW2 : Hid (Below w.heap.size w w2) := HWY.out.trans (hb2.mono HWY.out.size)
  obtain ⟨y0, y1, y2, y3, y4, y5, y6, yf, yl⟩ := y_cells HY2.out
  clear hb2 HT3 HY HWY
  have HKW := hid (kways_any w.heap.size R (.slice aos R.stops.length caps) (.slice aor R.roads.length capr) _ HOK.out HY2.out.stops HY2.out.roads)
  unfold inst at HKW
  go_wp2_with fail
  refine HKW.out.mono ?_
  rintro e5 w5 ⟨v5, rfl, hg5, hb5⟩
  have HSQ5 := hid (hg5.sq (by omega))
  have HY5 := hide (HY2.out.below hb5)
  have HW5 : Hid (Below w.heap.size w w5) := HW2.out.trans (hb5.mono HW2.out.size)
  clear y0 y1 y2 y3 y4 y5 y6 yf yl
  obtain ⟨y0, y1, y2, y3, y4, y5, y6, yf, yl⟩ := y_cells HY5.out
  obtain ⟨g5, rfl, _⟩ := hg5
  clear hb5 HKW HY2 HW2
  go_wp2_with fail
  refine (HSO.out _ HW5.out).mono ?_
  rintro e6 w6 ⟨rfl, hg6, hb6⟩
  have HF := hid (HFN.out hg6)
  have HBD := hid (HBE.out hg6)
  have HSA6 := hid (fun W m => HSA.out hg6 W m HBD.out)
  have HSJ6 := hid (fun W j => HSJ.out hg6 W j HBD.out)
  have HPJ6 := hid (fun vs vr vw W j => HPJ.out hg6 vs vr vw W j HBD.out)
  have HLE6 := hid (HLE.out hg6)
  have HBB6 := hid (HBB.out hg6)
  obtain ⟨hcnt, hlt⟩ := HLN.out HF.out
  have hN1 := HBD.out.pos
  have hN2 := HBD.out.low
  clear HSA HSJ HPJ HBE HLE HBB HLN HFN
  obtain ⟨W6, hW6⟩ : ∃ W6, W6 = w6.alloc (.cells #[.int .i64 av, .string ⟨ap.toArray⟩, .int .i64 ac, .string ⟨at_.toArray⟩] 35) := ⟨_, rfl⟩
  have hbW : Below w5.heap.size w5 W6 := by rw [hW6]; exact hb6.trans ((below1 w6 _).mono hb6.size)
  have hbx : W6.heap[w6.heap.size]? = some (.cells #[.int .i64 av, .string ⟨ap.toArray⟩, .int .i64 ac, .string ⟨at_.toArray⟩] 35 (0, 0)) := by rw [hW6]; exact heap_alloc_new w6 _
  have HBX := hid hbx
  have la : w6.heap.size < W6.heap.size := (Array.getElem?_eq_some_iff.1 hbx).1
  have a0 : W6.cell? ⟨w6.heap.size, 0, none⟩ = _ := cell_of_row W6 _ 0 _ _ _ hbx
  have a1 : W6.cell? ⟨w6.heap.size, 1, none⟩ = _ := cell_of_row W6 _ 1 _ _ _ hbx
  have a2 : W6.cell? ⟨w6.heap.size, 2, none⟩ = _ := cell_of_row W6 _ 2 _ _ _ hbx
  have a3 : W6.cell? ⟨w6.heap.size, 3, none⟩ = _ := cell_of_row W6 _ 3 _ _ _ hbx
  have HY6 := hide (HY5.out.below hbW)
  have HSQ6 := hid (HSQ5.out.below hbW)
  have HW6 : Hid (Below w.heap.size w W6) := HW5.out.trans (hbW.mono HW5.out.size)
  clear y0 y1 y2 y3 y4 y5 y6 yf yl
  obtain ⟨y0, y1, y2, y3, y4, y5, y6, yf, yl⟩ := y_cells (HY5.out.below hb6)
  have HTD6 := hid (HTD.out _ _ _ W6 HF.out HY6.out.stops HY6.out.roads HSQ6.out)
  unfold inst at HTD6
  have HWQ6 := hid hW6
  clear hg6 hb6 hW6 hbW hbx HSO HTD HF HY5 HSQ5 HW5
  go_wp2_with fail
  rw [← HWQ6.out]
  refine HTD6.out.mono ?_
  rintro e7 w7 ⟨rfl, hb7⟩
  have HY7 := hide (HY6.out.below hb7)
  have HSQ7 := hid (HSQ6.out.below hb7)
  have HW7 : Hid (Below w.heap.size w w7) := HW6.out.trans (hb7.mono HW6.out.size)
  have hbx7 := (hb7.block _ la).trans HBX.out
  have b0 : w7.cell? ⟨w6.heap.size, 0, none⟩ = _ := cell_of_row w7 _ 0 _ _ _ hbx7
  have b1 : w7.cell? ⟨w6.heap.size, 1, none⟩ = _ := cell_of_row w7 _ 1 _ _ _ hbx7
  have b2 : w7.cell? ⟨w6.heap.size, 2, none⟩ = _ := cell_of_row w7 _ 2 _ _ _ hbx7
  have b3 : w7.cell? ⟨w6.heap.size, 3, none⟩ = _ := cell_of_row w7 _ 3 _ _ _ hbx7
  have lb : w6.heap.size < w7.heap.size := Nat.lt_of_lt_of_le la hb7.size
  have HBX7 := hid hbx7
  have HKL : Hid (∀ W, Calls Tryz.prog 16 #[.string ⟨at_.toArray⟩] W fun e w' => e = .returned (.int .i64 (N : Nat)) ∧ w' = W) := fun W => by
    refine (klines_any ⟨at_.toArray⟩ W (by show at_.toArray.size ≤ _; rw [List.size_toArray]; omega)).mono ?_
    rintro e w' ⟨k1, k2⟩
    refine ⟨?_, k2⟩
    rw [k1, ← hcnt]
  clear y0 y1 y2 y3 y4 y5 y6 yf yl a0 a1 a2 a3 hbx7 hcnt hlt
  obtain ⟨y0, y1, y2, y3, y4, y5, y6, yf, yl⟩ := y_cells HY7.out
  clear hb7 HTD6 HY6 HSQ6 HW6 HBX HWQ6
  go_wp2_with fail
  refine (HKL.out _).mono ?_
  rintro e8 w8 ⟨rfl, rfl⟩
  clear HKL
  have hNb := HBD.out.le
  go_wp2_with fail
  refine (HSA6.out _ N (Nat.le_refl _) hNb HW7.out).mono ?_
  rintro e9 w9 ⟨rfl, hb9⟩
  obtain ⟨W9, hW9⟩ : ∃ W9, W9 = w9.alloc (.cells #[.int .i64 av, .string ⟨ap.toArray⟩, .int .i64 ac, .string ⟨at_.toArray⟩] 35) := ⟨_, rfl⟩
  have hb9W : Below w8.heap.size w8 W9 := by rw [hW9]; exact hb9.trans ((below1 w9 _).mono hb9.size)
  have hbxb : W9.heap[w9.heap.size]? = some (.cells #[.int .i64 av, .string ⟨ap.toArray⟩, .int .i64 ac, .string ⟨at_.toArray⟩] 35 (0, 0)) := by rw [hW9]; exact heap_alloc_new w9 _
  have HBXB := hid hbxb
  have HBXA := hid ((hb9W.block _ lb).trans HBX7.out)
  have HY9 := hide (HY7.out.below hb9W)
  have HSQ9 := hid (HSQ7.out.below hb9W)
  have HW9 : Hid (Below w.heap.size w W9) := HW7.out.trans (hb9W.mono HW7.out.size)
  have HWQ9 := hid hW9
  have hm1 := bentS_range mo N b (by omega)
  have HBT : Hid (∀ W, Calls Tryz.prog 17 #[.int .i64 mo, .int .i64 (N : Nat), .int .i64 144115188075855872] W fun e w' => e = .returned (.int .i64 ((bentS mo N b).toNat : Nat)) ∧ w' = W) := fun W => by
    have h := bent_big mo N b W hmo.1 hmo.2 (by omega) (by omega) (by omega)
    rw [Int.toNat_of_nonneg (by omega), ← hbI]
    exact h
  have HSM := hid (fun W hW => HSA6.out W (bentS mo N b).toNat (by omega) (by omega) hW)
  have hm2 : N ≤ (bentS mo N b).toNat ∧ (bentS mo N b).toNat ≤ b := by omega
  generalize (bentS mo N b).toNat = M at *
  clear hb9 hW9 hb9W hbxb hm1 y0 y1 y2 y3 y4 y5 y6 yf yl b0 b1 b2 b3 HBX7 HY7 HSQ7 HW7
  go_wp2_with fail
  rw [← HWQ9.out]
  refine (HBT.out _).mono ?_
  rintro e10 w10 ⟨rfl, hw10⟩
  rw [hw10]
  clear hw10 HBT
  go_wp2_with fail
  refine (HSM.out _ HW9.out).mono ?_
  rintro e11 w11 ⟨rfl, hb11⟩
  obtain ⟨W11, hW11⟩ : ∃ W11, W11 = w11.alloc (.cells #[.int .i64 av, .string ⟨ap.toArray⟩, .int .i64 ac, .string ⟨at_.toArray⟩] 35) := ⟨_, rfl⟩
  have lA : w6.heap.size < W9.heap.size := (Array.getElem?_eq_some_iff.1 HBXA.out).1
  have lB : w9.heap.size < W9.heap.size := (Array.getElem?_eq_some_iff.1 HBXB.out).1
  have hb11W : Below W9.heap.size W9 W11 := by rw [hW11]; exact hb11.trans ((below1 w11 _).mono hb11.size)
  have hbxc : W11.heap[w11.heap.size]? = some (.cells #[.int .i64 av, .string ⟨ap.toArray⟩, .int .i64 ac, .string ⟨at_.toArray⟩] 35 (0, 0)) := by rw [hW11]; exact heap_alloc_new w11 _
  have HBXC := hid hbxc
  have HBXA2 := hid ((hb11W.block _ lA).trans HBXA.out)
  have HBXB2 := hid ((hb11W.block _ lB).trans HBXB.out)
  have HY11 := hide (HY9.out.below hb11W)
  have HSQ11 := hid (HSQ9.out.below hb11W)
  have HW11 : Hid (Below w.heap.size w W11) := HW9.out.trans (hb11W.mono HW9.out.size)
  have HWQ11 := hid hW11
  have xa := (hb11.block _ lA).trans HBXA.out
  have xb := (hb11.block _ lB).trans HBXB.out
  have a0 : w11.cell? ⟨w6.heap.size, 0, none⟩ = _ := cell_of_row w11 _ 0 _ _ _ xa
  have a1 : w11.cell? ⟨w6.heap.size, 1, none⟩ = _ := cell_of_row w11 _ 1 _ _ _ xa
  have a2 : w11.cell? ⟨w6.heap.size, 2, none⟩ = _ := cell_of_row w11 _ 2 _ _ _ xa
  have a3 : w11.cell? ⟨w6.heap.size, 3, none⟩ = _ := cell_of_row w11 _ 3 _ _ _ xa
  have b0 : w11.cell? ⟨w9.heap.size, 0, none⟩ = _ := cell_of_row w11 _ 0 _ _ _ xb
  have b1 : w11.cell? ⟨w9.heap.size, 1, none⟩ = _ := cell_of_row w11 _ 1 _ _ _ xb
  have b2 : w11.cell? ⟨w9.heap.size, 2, none⟩ = _ := cell_of_row w11 _ 2 _ _ _ xb
  have b3 : w11.cell? ⟨w9.heap.size, 3, none⟩ = _ := cell_of_row w11 _ 3 _ _ _ xb
  have la : w6.heap.size < w11.heap.size := (Array.getElem?_eq_some_iff.1 xa).1
  have lb2 : w9.heap.size < w11.heap.size := (Array.getElem?_eq_some_iff.1 xb).1
  clear hb11 hW11 hb11W hbxc xa xb HBXA HBXB HY9 HSQ9 HW9 HSM HWQ9
  have hj1 := bentS_range sm 0 ((N : Int) - 1) (by omega)
  have HBT2 : Hid (∀ W, Calls Tryz.prog 17 #[.int .i64 sm, .int .i64 0, .int .i64 ((N : Int) - 1)] W fun e w' => e = .returned (.int .i64 ((bentS sm 0 ((N : Int) - 1)).toNat : Nat)) ∧ w' = W) := fun W => by
    have h := bent_big sm 0 ((N : Int) - 1) W hsm.1 hsm.2 (by omega) (by omega) (by omega)
    rw [Int.toNat_of_nonneg (by omega)]
    exact h
  have hj2 : (bentS sm 0 ((N : Int) - 1)).toNat < N := by omega
  generalize (bentS sm 0 ((N : Int) - 1)).toNat = J at *
  have hk1 := bentS_range mo J ((N : Int) - 1) (by omega)
  have HBT3 : Hid (∀ W, Calls Tryz.prog 17 #[.int .i64 mo, .int .i64 (J : Nat), .int .i64 ((N : Int) - 1)] W fun e w' => e = .returned (.int .i64 ((bentS mo J ((N : Int) - 1)).toNat : Nat)) ∧ w' = W) := fun W => by
    have h := bent_big mo J ((N : Int) - 1) W hmo.1 hmo.2 (by omega) (by omega) (by omega)
    rw [Int.toNat_of_nonneg (by omega)]
    exact h
  have hk2 : J ≤ (bentS mo J ((N : Int) - 1)).toNat ∧ (bentS mo J ((N : Int) - 1)).toNat < N := by omega
  generalize (bentS mo J ((N : Int) - 1)).toNat = K at *
  have wN : IntKind.i64.wrap ((N : Int) - 1) = (N : Int) - 1 := i64_fits _ (by omega)
  clear hj1 hk1
  go_wp2_with fail
  rw [← HWQ11.out]
  refine (HBT2.out _).mono ?_
  rintro e12 w12 ⟨rfl, hw12⟩
  rw [hw12]
  clear hw12 HBT2 a0 a1 a2 a3 b0 b1 b2 b3 la lb2 HWQ11
  go_wp2_with fail
  refine (HSJ6.out _ J hj2 HW11.out).mono ?_
  rintro e13 w13 ⟨rfl, hb13⟩
  obtain ⟨W13, hW13⟩ : ∃ W13, W13 = w13.alloc (.cells #[.int .i64 3, .string ⟨(lp J).toArray⟩, .int .i64 (lc J), .string ⟨#[]⟩] 35) := ⟨_, rfl⟩
  have lA : w6.heap.size < W11.heap.size := (Array.getElem?_eq_some_iff.1 HBXA2.out).1
  have hb13W : Below W11.heap.size W11 W13 := by rw [hW13]; exact hb13.trans ((below1 w13 _).mono hb13.size)
  have HBXA3 := hid ((hb13W.block _ lA).trans HBXA2.out)
  have HY13 := hide (HY11.out.below hb13W)
  have HSQ13 := hid (HSQ11.out.below hb13W)
  have HW13 : Hid (Below w.heap.size w W13) := HW11.out.trans (hb13W.mono HW11.out.size)
  have HWQ13 := hid hW13
  obtain ⟨y0, y1, y2, y3, y4, y5, y6, yf, yl⟩ := y_cells (HY11.out.below hb13)
  have HPP := hid (HPJ6.out _ _ _ W13 J hj2 HY13.out.stops HY13.out.roads HSQ13.out)
  unfold inst at HPP
  clear hb13 hW13 hb13W HBXA2 HBXB2 HBXC HY11 HSQ11 HW11
  go_wp2_with fail
  rw [← HWQ13.out]
  refine HPP.out.mono ?_
  rintro e14 w14 ⟨rfl, hb14⟩
  have lA3 : w6.heap.size < W13.heap.size := (Array.getElem?_eq_some_iff.1 HBXA3.out).1
  have HBXA4 := hid ((hb14.block _ lA3).trans HBXA3.out)
  have HY14 := hide (HY13.out.below hb14)
  have HSQ14 := hid (HSQ13.out.below hb14)
  have HW14 : Hid (Below w.heap.size w w14) := HW13.out.trans (hb14.mono HW13.out.size)
  clear hb14 HPP HY13 HSQ13 HW13 HBXA3 HWQ13 y0 y1 y2 y3 y4 y5 y6 yf yl
  go_wp2_with fail
  refine (HBT3.out _).mono ?_
  rintro e15 w15 ⟨rfl, hw15⟩
  rw [hw15]
  clear hw15 HBT3
  go_wp2_with fail
  refine (HSJ6.out _ K hk2.2 HW14.out).mono ?_
  rintro e16 w16 ⟨rfl, hb16⟩
  obtain ⟨W16, hW16⟩ : ∃ W16, W16 = w16.alloc (.cells #[.int .i64 3, .string ⟨(lp K).toArray⟩, .int .i64 (lc K), .string ⟨#[]⟩] 35) := ⟨_, rfl⟩
  have lA4 : w6.heap.size < w14.heap.size := (Array.getElem?_eq_some_iff.1 HBXA4.out).1
  have hb16W : Below w14.heap.size w14 W16 := by rw [hW16]; exact hb16.trans ((below1 w16 _).mono hb16.size)
  have HBXA5 := hid ((hb16W.block _ lA4).trans HBXA4.out)
  have HY16 := hide (HY14.out.below hb16W)
  have HSQ16 := hid (HSQ14.out.below hb16W)
  have HW16 : Hid (Below w.heap.size w W16) := HW14.out.trans (hb16W.mono HW14.out.size)
  have HWQ16 := hid hW16
  obtain ⟨y0, y1, y2, y3, y4, y5, y6, yf, yl⟩ := y_cells (HY14.out.below hb16)
  have HPP := hid (HPJ6.out _ _ _ W16 K hk2.2 HY16.out.stops HY16.out.roads HSQ16.out)
  unfold inst at HPP
  clear hb16 hW16 hb16W HBXA4 HY14 HSQ14 HW14
  go_wp2_with fail
  rw [← HWQ16.out]
  refine HPP.out.mono ?_
  rintro e17 w17 ⟨rfl, hb17⟩
  have lA5 : w6.heap.size < W16.heap.size := (Array.getElem?_eq_some_iff.1 HBXA5.out).1
  have hxa := (hb17.block _ lA5).trans HBXA5.out
  have a0 : w17.cell? ⟨w6.heap.size, 0, none⟩ = _ := cell_of_row w17 _ 0 _ _ _ hxa
  have a2 : w17.cell? ⟨w6.heap.size, 2, none⟩ = _ := cell_of_row w17 _ 2 _ _ _ hxa
  have la : w6.heap.size < w17.heap.size := (Array.getElem?_eq_some_iff.1 hxa).1
  have HW17 : Hid (Below w.heap.size w w17) := HW16.out.trans (hb17.mono HW16.out.size)
  have hle := HLE6.out J K hk2.1 (by omega)
  have hbb := HBB6.out K (by omega)
  generalize lq J = pJ at *
  generalize lq K = pK at *
  clear hb17 HPP HY16 HSQ16 HW16 HBXA5 HWQ16 y0 y1 y2 y3 y4 y5 y6 yf yl hxa
  by_cases hK : pK = -1
  · have hJ : pJ = -1 := by omega
    subst hK hJ
    clear hle hbb
    go_wp2_with fail
    go_ret
    exact ⟨rfl, HW17.out⟩
  · obtain ⟨hav, hac⟩ : av = 1 ∧ ac ≤ pK := by omega
    subst hav
    have eK : (pK != -1) = true := by simpa using hK
    have eK2 : ¬ pK < ac := by omega
    by_cases hJ : pJ = -1
    · subst hJ
      clear hle hbb
      go_wp2_with fail
      go_ret
      exact ⟨rfl, HW17.out⟩
    · have eJ : (pJ == -1) = false := by simpa using hJ
      have eL : pK ≤ pJ := by omega
      clear hle hbb
      go_wp2_with fail
      go_ret
      exact ⟨rfl, HW17.out⟩
end Go.Proofs.YtebinaopncclgabGreatDoor
