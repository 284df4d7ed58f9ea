/- Walks: with a great budget Solve comes to an end. -/
import Derived.Test.YtebinaopncclgabGreatDoorSNext
import Derived.Test.YtebinaopncclgabGreatDoorGNodes
import Derived.Test.YtebinaopncclgabGreatDoorSText
import Derived.Test.YtebinaopncclgabGreatDoorXWrite
import Derived.Test.YtebinaopncclgabGreatDoorGBox
import Derived.Test.YtebinaopncclgabGreatDoorLaw
import Derived.ProofKit
import Derived.OpenShut
import Derived.ChangeOld
import Derived.Below
import Derived.Deep.Slices
import Derived.Test.YtebinaopncclgabGreatDoorDrvD
import Derived.Test.YtebinaopncclgabGreatDoorWRange
namespace Go.Proofs.YtebinaopncclgabGreatDoor
open Go.RowKit Go.IntWalk

def GrowLeft (w0 : World) (p : Nat) (r : Rd) (b : Nat) (vs vf vf2 : Value) (e : Ending) (w' : World) : Prop :=
  e = .returned (.bool (growG (insOf r (siteD r)) b).2) ∧ ∃ vl, SearchAt w0 w' p r vl (growG (insOf r (siteD r)) b).1.fc (growG (insOf r (siteD r)) b).1.P vs vf vf2 ∧ NodesR w' (p + 1) vl (growG (insOf r (siteD r)) b).1.L ∧ GoodTo (insOf r (siteD r)) b
/- the search's box after k nodes -/
structure GrowAt (w0 w : World) (p : Nat) (r : Rd) (k : Nat) (vl vs vf vf2 : Value) : Prop where
  at_ : SearchAt w0 w p r vl (growG (insOf r (siteD r)) k).1.fc (growG (insOf r (siteD r)) k).1.P vs vf vf2
  list : NodesR w (p + 1) vl (growG (insOf r (siteD r)) k).1.L
  good : GoodTo (insOf r (siteD r)) k
  open_ : (growG (insOf r (siteD r)) k).2 = false
noncomputable def listN (w : World) (p : Nat) : Nat := match w.cell? ⟨p, 75, none⟩ with | some (.slice _ n _) => n | _ => 0
theorem insVans {r : Rd} (hok : RdOk r) : 1 ≤ (insOf r (siteD r)).vans ∧ (insOf r (siteD r)).vans ≤ 3 := by
  have hhd := headOk_iff.1 hok.head
  show 1 ≤ r.vans.toNat ∧ r.vans.toNat ≤ 3
  omega
theorem insFine {r : Rd} (hok : RdOk r) : InsOk (insOf r (siteD r)) := insOk_of hok (fun a b h1 h2 => (site_range hok a b h1 h2).1)
theorem GoodTo.succ {I : Ins} {k : Nat} (h : GoodTo I k) (hg : GoodB I (growG I k).1.P) : GoodTo I (k + 1) := fun j hj ho => by
  by_cases e : j = k
  · rw [e]; exact hg
  · exact h j (by omega) ho
theorem GoodTo.stay {I : Ins} {k b : Nat} (h : GoodTo I k) (hd : (growG I k).2 = true) : GoodTo I b := fun j _ ho => by
  by_cases e : j < k
  · exact h j e ho
  · rw [grw_stay hd j (by omega), hd] at ho; cases ho

theorem own_not_node {w : World} {B n b : Nat} {va : Value} {xs : List Value} {cs : Array Value} (g2 : w.ownsRow B 218 2 va n xs) (hb : w.heap[b]? = some (.cells cs 76 (0, 0))) : va.ownBlock ≠ some b := fun h => by
  rcases g2.2 with ⟨q1, _⟩ | ⟨gq, cap, cur, q1, _, q3, _⟩
  · rw [q1] at h; cases h
  · rw [q1] at h
    cases h
    rw [hb] at q3
    cases q3
theorem NodesR.aside {w : World} {B q o : Nat} {v y : Value} {L : List NodeT} (h : NodesR w B v L) (hq : q < B) : NodesR (w.setCell ⟨q, o, none⟩ y) B v L := by
  obtain ⟨us, h1, h2, h3⟩ := h
  exact ⟨us, h1, own_aside h2 hq, fun i hi => own_aside (h3 i hi) hq⟩
theorem grow_left {w0 w1 W2 X w5 : World} {p : Nat} {r : Rd} {vl v5 vs vf vf2 lx : Value} {fc : Option RoutesQ} {P : PathT} {L : List NodeT} {us : List Value} {nd : NodeT} (hsa : SearchAt w0 W2 p r vl fc P vs vf vf2) (hb2 : Below w1.heap.size w1 W2) (hn : W2.heap[w1.heap.size]? = some (.cells #[.int .i64 nd.1, lx] 76 (0, 0))) (hX : Below W2.heap.size W2 X)
    (h1 : us.length = L.length) (h2 : w1.ownsRow (p + 1) 76 2 vl L.length (cellsN L us)) (h3 : ∀ i (h : i < L.length), w1.ownsRow (p + 1) 3 1 (us.getD i (.slice none 0 0)) L[i].2.length (ints L[i].2)) (hl : w1.ownsRow (p + 1) 3 1 lx nd.2.length (ints nd.2)) (hp : p < w1.heap.size)
    (hg : X.grownBy w5 vl.ownBlock) (ho : w5.ownsRow (p + 1) 76 2 v5 (L.length + 1) (cellsN L us ++ [.int .i64 nd.1, lx])) :
    SearchAt w0 (w5.setCell ⟨p, 75, none⟩ v5) p r v5 fc P vs vf vf2 ∧ NodesR (w5.setCell ⟨p, 75, none⟩ v5) (p + 1) v5 (L ++ [nd]) ∧ (w5.setCell ⟨p, 75, none⟩ v5).heap[w1.heap.size]? = some (.cells #[.int .i64 nd.1, lx] 76 (0, 0)) ∧ (w5.setCell ⟨p, 75, none⟩ v5).ownsRow (p + 1) 3 1 lx nd.2.length (ints nd.2) := by
  have h2' := own_below h2 hb2
  have hl' := own_below hl hb2
  have hz : w1.heap.size < W2.heap.size := (Array.getElem?_eq_some_iff.1 hn).1
  have hk : Keep [76] X w5 := Keep.grown (own_below h2' hX) (by simp) hg
  refine ⟨search_push (walk_grown hsa hX h2' hg) v5, (NodesR.push (nd := nd) h1 h2' (fun i hi => own_below (h3 i hi) hb2) hl' hX hg ho).aside (by omega), ?_, own_aside (own_keep (own_below hl' hX) hk (by decide)) (by omega)⟩
  rw [Below.heap_setCell _ _ _ _ (by show w1.heap.size ≠ p; omega), hg.block _ (Nat.lt_of_lt_of_le hz hX.size) (fun he => by have := (h2.lt _ he.symm).2; omega), hX.block _ hz]
  exact hn

theorem grow_done {w0 w7 : World} {p b k : Nat} {r : Rd} {s : SSt} {v5 vs vf vf2 : Value} (h1 : growG (insOf r (siteD r)) b = growG (insOf r (siteD r)) (k + 1)) (h2 : GoodTo (insOf r (siteD r)) b) (h3 : growG (insOf r (siteD r)) (k + 1) = (s, true)) (h4 : SearchAt w0 w7 p r v5 s.fc s.P vs vf vf2) (h5 : NodesR w7 (p + 1) v5 s.L) : GrowLeft w0 p r b vs vf vf2 (.returned (.bool true)) w7 :=
  ⟨by rw [h1, h3], v5, by rw [h1, h3]; exact h4, by rw [h1, h3]; exact h5, h2⟩
set_option maxRecDepth 100000 in
set_option maxHeartbeats 8000000 in
theorem grow_any (w0 w : World) (p B b : Nat) (r : Rd) (vl vs vf : Value) (af : Option Addr) (cf : Nat) (hok : RdOk r) (hT : TabX B w0) (hB : B ≤ p) (hb : b ≤ 144115188075855872) (hw : GrowAt w0 w p r 0 vl vs vf (.slice af (r.stops.length + 1 : Nat) cf)) (hs : StR w0 vs r) (hq : SqR w0 vf (r.stops.length + 1) (siteD r)) (hq2 : SqR w0 (.slice af (r.stops.length + 1 : Nat) cf) (r.stops.length + 1) (siteD r)) :
    Calls Tryz.prog 41 #[.pointer (some ⟨p, 0, none⟩), .int .i64 b] w (GrowLeft w0 p r b vs vf (.slice af (r.stops.length + 1 : Nat) cf)) := by
  obtain ⟨i0, hi, hz0, hz1, hz2⟩ := info_parts Tryz.infoNode
  have hn7 := hok.nstops
  have HV := hid (insVans hok)
  have HI := hid (insFine hok)
  have HW := hid hw
  have hTB : ∀ W, Below p w0 W → TabX B W := fun W hW => hT.on hW hB
  clear hw
  go_enter Tryz.func41, Tryz.ntmps41
  go_wp2_with fail
  go_loopw [] (fun wr => ∃ (k : Nat) (vl : Value), k ≤ b ∧ Hid (GrowAt w0 wr p r k vl vs vf (.slice af (r.stops.length + 1 : Nat) cf))) (fun wr => b - listN wr p)
  case atStart => exact ⟨0, vl, Nat.zero_le _, HW⟩
  case round =>
    obtain ⟨k, vl, hk, HG⟩ := hrel
    obtain ⟨hiv, hlk⟩ := (grw_inv HI.out hn7 HV.out.1 HV.out.2 k HG.out.good).1 HG.out.open_
    have hk9 : k ≤ 90000000000 := by have h1 := hiv.pot; have h2 := bq_bound; omega
    have HIV := hid hiv
    obtain ⟨us, u1, u2, u3⟩ := HG.out.list
    obtain ⟨al, cl, rfl, _, _⟩ := own_val u2
    have c75 := search_list HG.out.at_
    rw [hlk] at c75
    have hpl := HG.out.at_.arcs.lt
    have f75 := HG.out.at_.arcs.frozen 75
    by_cases hlt : k < b
    · have HNX := hid (next_any w0 wr p B r _ _ _ vs vf af cf hok (hTB wr HG.out.at_.below) hB HG.out.at_ hs hq hq2)
      have HNK := hid (fun hg => next_ok HI.out hn7 HV.out.1 HV.out.2 hiv.path hg (growG (insOf r (siteD r)) k).1.fc)
      have HGN := hid (grw_next HG.out.open_)
      have HS1 : Hid ((nextQ (insOf r (siteD r)) (growG (insOf r (siteD r)) k).1.P (growG (insOf r (siteD r)) k).1.fc).1.1 = 1 → growG (insOf r (siteD r)) (k + 1) = (⟨(growG (insOf r (siteD r)) k).1.L ++ [(nextQ (insOf r (siteD r)) (growG (insOf r (siteD r)) k).1.P (growG (insOf r (siteD r)) k).1.fc).1], ((((nextQ (insOf r (siteD r)) (growG (insOf r (siteD r)) k).1.P (growG (insOf r (siteD r)) k).1.fc).1.2.getD 0 0).toNat, ((nextQ (insOf r (siteD r)) (growG (insOf r (siteD r)) k).1.P (growG (insOf r (siteD r)) k).1.fc).1.2.getD 1 0).toNat), true) :: (growG (insOf r (siteD r)) k).1.P, (nextQ (insOf r (siteD r)) (growG (insOf r (siteD r)) k).1.P (growG (insOf r (siteD r)) k).1.fc).2⟩, false)) := fun h => by
        rw [HGN.out]; unfold stepG; rw [if_pos h]
      have HS2 : Hid ((nextQ (insOf r (siteD r)) (growG (insOf r (siteD r)) k).1.P (growG (insOf r (siteD r)) k).1.fc).1.1 ≠ 1 → growG (insOf r (siteD r)) (k + 1) = (⟨(growG (insOf r (siteD r)) k).1.L ++ [(nextQ (insOf r (siteD r)) (growG (insOf r (siteD r)) k).1.P (growG (insOf r (siteD r)) k).1.fc).1], leaveP (growG (insOf r (siteD r)) k).1.P, (nextQ (insOf r (siteD r)) (growG (insOf r (siteD r)) k).1.P (growG (insOf r (siteD r)) k).1.fc).2⟩, (leaveP (growG (insOf r (siteD r)) k).1.P).isEmpty)) := fun h => by
        rw [HGN.out]; unfold stepG; rw [if_neg h]
      have HNL := hid HG.out.list
      have HSA := hid HG.out.at_
      have HGT := hid HG.out.good
      have hpd := path_depth hn7 hiv.path
      have HPT := hid hiv.path
      unfold NextLeft at HNX
      clear u1 u2 u3 hiv HIV HGN HG
      generalize nextQ (insOf r (siteD r)) (growG (insOf r (siteD r)) k).1.P (growG (insOf r (siteD r)) k).1.fc = X at *
      obtain ⟨⟨kd, zs⟩, fc'⟩ := X
      dsimp only at HNX HNK HS1 HS2
      go_wp2_with fail
      refine HNX.out.mono ?_
      rintro e1 w1 ⟨x, rfl, ho1, hs1, hk1, hg1⟩
      have HNO := hid (HNK.out hg1)
      have HGT1 := hid (HGT.out.succ hg1)
      have HN1 := hid (HNL.out.kept (by omega) HSA.out (KeptP.of_kept hk1))
      have HSA1 := hid hs1
      have hz1w : wr.heap.size ≤ w1.heap.size := hk1.1
      have HO1 : Hid (w1.ownsRow (p + 1) 3 1 x zs.length (ints zs)) := own_base ho1 (by omega)
      obtain ⟨ax, cx, rfl, _, _⟩ := own_val ho1
      have d75 := search_list hs1
      rw [hlk] at d75
      have hp1 := hs1.arcs.lt
      have fz1 := hs1.arcs.frozen 75
      obtain ⟨us, u1, u2, u3⟩ := HN1.out
      rw [hlk] at u1 u2
      have HU1 := hid u1
      have HU2 := hid u2
      have HU3 := hid u3
      clear ho1 hs1 hk1 hg1 HNX HNK HNL HSA u1 u2 u3
      obtain ⟨W2, hW2⟩ : ∃ W2, W2 = w1.alloc (.cells #[.int .i64 kd, .slice ax zs.length cx] 76) := ⟨_, rfl⟩
      have hb2 : Below w1.heap.size w1 W2 := by rw [hW2]; exact below1 w1 _
      have hz2w : W2.heap.size = w1.heap.size + 1 := by rw [hW2]; simp
      have hbn : W2.heap[w1.heap.size]? = some (.cells #[.int .i64 kd, .slice ax zs.length cx] 76 (0, 0)) := by rw [hW2]; exact heap_alloc_new w1 _
      have HBN := hid hbn
      have n0 : W2.cell? ⟨w1.heap.size, 0, none⟩ = _ := cell_of_row W2 _ 0 _ _ _ hbn
      have n1 : W2.cell? ⟨w1.heap.size, 1, none⟩ = _ := cell_of_row W2 _ 1 _ _ _ hbn
      have HB2 := hid hb2
      have HSA2 := hid (HSA1.out.mv hb2)
      have HU2W := hid (own_below HU2.out hb2)
      have e75 : W2.cell? ⟨p, 75, none⟩ = _ := (hb2.cell (by exact hp1)).trans d75
      have hp2 : p < W2.heap.size := by omega
      have hp3 : p + 1 < W2.heap.size := by omega
      obtain ⟨cs, ty, hbox⟩ := HSA2.out.arcs.box
      have HBOX := hid hbox
      have fz2 := HSA2.out.arcs.frozen 75
      have HWQ2 := hid hW2
      clear hb2 hbn hW2 hbox d75 fz1
      go_wp2_with fail
      rw [← HWQ2.out]
      go_region_law (refine step_append_own rfl (.tmp 19) (.tmp 21) 56 rfl (p + 1) 76 i0 (.agg #[.int .i64 0, .slice none 0 0]) 2 32 Tryz.underlying56 hi hz0 hz1 hz2 rfl (by decide) (.slice al k cl) k (cellsN (growG (insOf r (siteD r)) k).1.L us) (by simp [Act.eval]) (by exact own_new rfl HU2W.out rfl) ⟨W2.heap.size, 0, none⟩ 1 1 [.int .i64 kd, .slice ax zs.length cx] (by simp [Act.eval]) rfl (by exact news_at rfl rfl) (by intro u hu; simp at hu; rcases hu with rfl | rfl <;> rfl) (by unfold maxLen; omega) (by omega) (by exact lt_new rfl (Nat.le_refl (p + 1)) hp3) ?_; intro v5 w5 hown5 hgr5; have HO5 := hid hown5; have HG5 := hid hgr5; have HP5 : Hid (w5.heap[p]? = W2.heap[p]?) := kept_p (w := W2) (by exact rfl) hp2 HU2W.out hgr5; obtain ⟨g5, cap5, cur5, hv5, _, _, _⟩ := own_shape hown5 (by omega); clear hown5 hgr5; subst hv5; have c5 : w5.cell? ⟨p, 75, none⟩ = some (.slice al k cl) := (cell_p (k := 75) HBOX.out HP5.out).trans e75; have f5 : w5.frozen? ⟨p, 75, none⟩ = false := frozen_of_row w5 p 75 _ _ (HP5.out.trans HBOX.out))
      all_goals
        obtain ⟨w6, hw6⟩ : ∃ w6, w6 = w5.setCell ⟨p, 75, none⟩ (.slice (some ⟨g5, 0, none⟩) (k + 1) cap5) := ⟨_, rfl⟩
        obtain ⟨hs6, hn6, hb6, hx6⟩ := grow_left (nd := (kd, zs)) HSA2.out HB2.out HBN.out (below1 W2 _).drew (by rw [hlk]; exact HU1.out) (by rw [hlk]; exact HU2.out) HU3.out HO1.out hp1 (by rw [hlk]; exact HG5.out) (by rw [hlk]; exact HO5.out)
        rw [← hw6] at hs6 hn6 hb6 hx6
        have HS6 := hid hs6
        have HN6 := hid hn6
        have HX6 := hid hx6
        have y0 : w6.cell? ⟨w1.heap.size, 0, none⟩ = _ := cell_of_row w6 _ 0 _ _ _ hb6
        have y1 : w6.cell? ⟨w1.heap.size, 1, none⟩ = _ := cell_of_row w6 _ 1 _ _ _ hb6
        have ly : w1.heap.size < w6.heap.size := (Array.getElem?_eq_some_iff.1 hb6).1
        have lp6 := hs6.arcs.lt
        have HBN6 := hid hb6
        have HWQ6 := hid hw6
        clear hs6 hn6 hb6 hx6 hw6
        by_cases hkd : kd = 1
        · subst hkd
          obtain ⟨a, b', hzs, ha, hb', hab, h0, _⟩ := HNO.out.arc rfl
          have hzs' : zs = [(a : Int), (b' : Int)] := hzs
          subst hzs'
          have HGR := hid (HS1.out rfl)
          have HEN : Hid (∀ W, Below w6.heap.size w6 W → Calls Tryz.prog 89 #[.pointer (some ⟨p, 8, none⟩), .slice ax 2 cx] W fun e w' => e = .returned (.bool true) ∧ w'.cell? ⟨w1.heap.size, 1, none⟩ = some (.slice ax 2 cx) ∧ Hid (SearchAt w0 w' p r (.slice (some ⟨g5, 0, none⟩) (k + 1) cap5) fc' (((a, b'), true) :: (growG (insOf r (siteD r)) k).1.P) vs vf (.slice af (r.stops.length + 1 : Nat) cf)) ∧ Hid (NodesR w' (p + 1) (.slice (some ⟨g5, 0, none⟩) (k + 1) cap5) ((growG (insOf r (siteD r)) k).1.L ++ [(1, [(a : Int), (b' : Int)])]))) := fun W hW => by
            have hsW := HS6.out.mv hW
            refine (enter_yes w0 W p r _ _ _ vs vf af cf a b' hok (ListR.own (own_below HX6.out hW)) hsW (by omega) ha hb' hab h0).mono ?_
            rintro e w' ⟨h1, h2, h3⟩
            obtain ⟨va, g1, g2⟩ := hsW.above
            have hbW := (hW.block _ ly).trans HBN6.out
            have hne : va.ownBlock ≠ some w1.heap.size := own_not_node g2 hbW
            have hb' : w'.heap[w1.heap.size]? = _ := (h3.2 va g1 w1.heap.size (Nat.lt_of_lt_of_le ly hW.size) (by omega) hne).trans hbW
            exact ⟨h1, cell_of_row w' _ 1 _ _ _ hb', h2, (HN6.out.below hW).kept (by omega) hsW h3⟩
          have HY1 : Hid (w6.cell? ⟨w1.heap.size, 1, none⟩ = some (.slice ax 2 cx)) := y1
          rw [← HWQ6.out]
          go_wp2_with fail
          go_region_held3 (fun w' => w'.cell? ⟨w1.heap.size, 1, none⟩ = some (.slice ax 2 cx)) (go_keep) (first | (go_at_call 89; refine (HEN.out _ (by first | exact Below.refl _ _ | exact (Below.refl _ _).drew)).mono ?_; rintro e7 w7 ⟨rfl, x1, HS7, HN7⟩))
          have HGA : Hid (GrowAt w0 w7 p r (k + 1) (.slice (some ⟨g5, 0, none⟩) (k + 1) cap5) vs vf (.slice af (r.stops.length + 1 : Nat) cf)) := ⟨by rw [HGR.out]; exact HS7.out, by rw [HGR.out]; exact HN7.out, HGT1.out, by rw [HGR.out]⟩
          have HL7 : Hid (listN w7 p = k + 1) := by show _ = _; unfold listN; rw [search_list HS7.out]
          have HLR : Hid (listN wr p = k) := by show _ = _; unfold listN; rw [c75]
          clear HEN HS7 HN7 x1 HY1
          go_wp2
          refine ⟨⟨k + 1, _, by omega, HGA⟩, ?_⟩
          show b - listN w7 p < b - listN wr p
          rw [HL7.out, HLR.out]; omega
        · have e1 : (kd == 1) = false := by simpa using hkd
          have HGR := hid (HS2.out hkd)
          have HLV := hid (leave_any w0 w6 p r _ (growG (insOf r (siteD r)) k).1.P vs vf af cf hok HPT.out (by omega) HS6.out)
          cases hle : (leaveP (growG (insOf r (siteD r)) k).1.P).isEmpty with
          | true =>
            rw [hle] at HLV HGR
            have HDN : Hid (growG (insOf r (siteD r)) b = growG (insOf r (siteD r)) (k + 1)) := grw_stay (by rw [HGR.out]) b (by omega)
            have HGB : Hid (GoodTo (insOf r (siteD r)) b) := HGT1.out.stay (by rw [HGR.out])
            clear hle hkd
            rw [← HWQ6.out]
            go_wp2_with fail
            refine HLV.out.mono ?_
            rintro e7 w7 ⟨rfl, hs7, hk7⟩
            have HS7 := hid hs7
            have HN7 := hid (HN6.out.kept (by omega) HS6.out (KeptP.of_kept hk7))
            clear hs7 hk7 HLV
            go_wp2_with fail
            go_ret
            exact grow_done HDN.out HGB.out HGR.out HS7.out HN7.out
          | false =>
            rw [hle] at HLV HGR
            clear hle hkd
            rw [← HWQ6.out]
            go_wp2_with fail
            refine HLV.out.mono ?_
            rintro e7 w7 ⟨rfl, hs7, hk7⟩
            have HGA : Hid (GrowAt w0 w7 p r (k + 1) (.slice (some ⟨g5, 0, none⟩) (k + 1) cap5) vs vf (.slice af (r.stops.length + 1 : Nat) cf)) := ⟨by rw [HGR.out]; exact hs7, by rw [HGR.out]; exact HN6.out.kept (by omega) HS6.out (KeptP.of_kept hk7), HGT1.out, by rw [HGR.out]⟩
            have HL7 : Hid (listN w7 p = k + 1) := by show _ = _; unfold listN; rw [search_list hs7]
            have HLR : Hid (listN wr p = k) := by show _ = _; unfold listN; rw [c75]
            clear hs7 hk7 HLV
            go_wp2_with fail
            refine ⟨⟨k + 1, _, by omega, HGA⟩, ?_⟩
            show b - listN w7 p < b - listN wr p
            rw [HL7.out, HLR.out]; omega
    · have hkb : k = b := by omega
      subst hkb
      clear u1 u2 u3 hiv hlt
      go_wp2_with fail
      go_ret
      exact ⟨by rw [HG.out.open_]; rfl, _, HG.out.at_, HG.out.list, HG.out.good⟩
end Go.Proofs.YtebinaopncclgabGreatDoor
namespace Go.Proofs.YtebinaopncclgabGreatDoor

theorem plan_judge {r : Rd} (hok : RdOk r) {D : Nat → Nat → Int} {R : RoutesQ} (hp : PlanQ (insOf r D) R) : ∃ S, judgeS r D (planB R) = (costQ (insOf r D) R, some S, 0) := by
  have hn := hok.nstops
  have h2 : ∀ ρ ∈ R, ∀ s ∈ ρ, 1 ≤ s ∧ s ≤ r.stops.length := fun ρ hρ s hs => hp.stops s (List.mem_flatten.2 ⟨ρ, hρ, hs⟩)
  have h1 := plan_routes (R := R) hp.ne (fun ρ hρ s hs => by have := h2 ρ hρ s hs; omega)
  have h3 := plan_is (n := r.stops.length) (by omega) hp.ne h2
  obtain ⟨c, S, e⟩ := (judge_iff (D := D) hok).2 ⟨h3, by rw [h1]; exact hp⟩
  have hc := judge_cost e
  rw [h1] at hc
  exact ⟨S, by rw [e, hc]⟩
theorem planB_mem {R : RoutesQ} (h : ∀ ρ ∈ R, ∀ s ∈ ρ, s ≤ 9) : ∀ c ∈ planB R, c.toNat ≤ 57 := by
  have hd : ∀ ρ ∈ R, ∀ c ∈ digB ρ, c.toNat ≤ 57 := fun ρ hρ c hc => by
    obtain ⟨s, hs, rfl⟩ := List.mem_map.1 hc
    rw [dig_nat (h ρ hρ s hs)]
    have := h ρ hρ s hs
    omega
  cases R with
  | nil => intro c hc; cases hc
  | cons ρ R =>
    intro c hc
    rcases List.mem_append.1 hc with e | e
    · exact hd ρ (by simp) c e
    · obtain ⟨l, hl, hcl⟩ := List.mem_flatten.1 e
      obtain ⟨σ, hσ, rfl⟩ := List.mem_map.1 hl
      rcases List.mem_cons.1 hcl with e2 | e2
      · rw [e2]; decide
      · exact hd σ (by simp [hσ]) c e2
theorem planB_none {R : RoutesQ} (h : ∀ ρ ∈ R, ∀ s ∈ ρ, s ≤ 9) : planB R ≠ noneB := fun e => by
  have := planB_mem h 110 (by rw [e]; simp [noneB])
  have h2 : (110 : UInt8).toNat = 110 := rfl
  omega
theorem planQ_low {r : Rd} (hok : RdOk r) {D : Nat → Nat → Int} {R : RoutesQ} (hp : PlanQ (insOf r D) R) : ∀ ρ ∈ R, ∀ s ∈ ρ, s ≤ 9 := fun ρ hρ s hs => by
  have hn := hok.nstops
  have := hp.stops s (List.mem_flatten.2 ⟨ρ, hρ, hs⟩)
  have h2 : s ≤ r.stops.length := this.2
  omega
theorem end_check {r : Rd} (hok : RdOk r) {s : SSt} (h : SEnd (insOf r (siteD r)) s) : checkS r (planV s.fc) (textT s.L) = (0, 0) := by
  have hr := read_write h.tree
  have key : ∀ cl, ClOk (insOf r (siteD r)) s.fc cl → claimS r (planV s.fc) = (cl, 0) → checkS r (planV s.fc) (textT s.L) = (0, 0) := fun cl hc he => by
    unfold checkS
    rw [he, hr]
    rw [if_neg (by simp), if_neg (by simp), if_pos ((firstW_walk _ _ _ _ _).2 ⟨_, h.walk cl hc⟩)]
  cases hf : s.fc with
  | none =>
    rw [hf] at key
    exact key none (fun R hR => by cases hR) (by unfold claimS planV noneB; rw [if_pos rfl])
  | some R =>
    rw [hf] at key
    have hp := h.plan R hf
    obtain ⟨S, hj⟩ := plan_judge hok hp
    refine key (some (costQ (insOf r (siteD r)) R)) (fun R' hR => by cases hR; exact ⟨_, rfl, Int.le_refl _⟩) ?_
    show claimS r (planB R) = _
    unfold claimS
    rw [if_neg (planB_none (planQ_low hok hp)), hj, if_neg (by simp)]
theorem text_len : ∀ {L : List NodeT}, (∀ nd ∈ L, nodeOkT nd = true) → (textT L).length ≤ 230 * L.length ∧ (textT L).count 10 = L.length := by
  intro L
  induction L with
  | nil => intro _; exact ⟨by simp [textT], by simp [textT]⟩
  | cons nd L ih =>
    intro h
    obtain ⟨h1, h2⟩ := ih fun x hx => h x (by simp [hx])
    have h3 := line_len (h nd (by simp))
    have e : textT (nd :: L) = lineT nd ++ textT L := by simp [textT]
    refine ⟨by rw [e, List.length_append, List.length_cons]; omega, ?_⟩
    rw [e, List.count_append, h2, List.length_cons]
    have h4 : (lineT nd).count 10 = 1 := by
      unfold lineT
      rw [List.count_append, List.count_eq_zero.2 (body_line (h nd (by simp)))]; rfl
    omega
end Go.Proofs.YtebinaopncclgabGreatDoor
namespace Go.Proofs.YtebinaopncclgabGreatDoor
open Go.RowKit Go.IntWalk

/- the answer -/
noncomputable def ansV (I : Ins) (b : Nat) : Int := if (growG I b).2 = true then (if (growG I b).1.fc.isSome = true then 1 else 2) else 3
noncomputable def ansT (I : Ins) (b : Nat) : List UInt8 := if (growG I b).2 = true then textT (growG I b).1.L else []
noncomputable def ansP (I : Ins) (b : Nat) : List UInt8 := planV (growG I b).1.fc
noncomputable def ansC (I : Ins) (b : Nat) : Int := costV I (growG I b).1.fc
def searchO : Array Value := #[.int .i64 0, .int .i64 0, .int .i64 0, .int .i64 0, .int .i64 0, .slice none 0 0, .slice none 0 0, .slice none 0 0] ++ placeZ 0 (.slice none 0 0) ++ #[.slice none 0 0, .bool false, .string ⟨#[]⟩, .int .i64 0]
theorem zero_search (W : World) : (zeroValue 94).run Tryz.prog W = .ok (.agg searchO) W := by kernel_rfl
theorem searchO_size : searchO.size = 79 := by kernel_rfl
def nonS : Value := .string ⟨#[110, 111, 110, 101]⟩
def searchZ (r : Rd) (vs vr vf v2 : Value) : Array Value := ground r vs vr vf ++ placeZ r.vans v2 ++ #[.slice none 0 0, .bool false, nonS, .int .i64 0]
def searchM (r : Rd) (vs vr vf v2 : Value) : Array Value := ground r vs vr vf ++ placeZ r.vans v2 ++ #[.slice none 0 0, .bool false, .string ⟨#[]⟩, .int .i64 0]
theorem searchM_size (r : Rd) (vs vr vf v2 : Value) : (searchM r vs vr vf v2).size = 79 := by unfold searchM; rw [Array.size_append, Array.size_append, placeZ_size]; rfl
theorem fold_search (a0 a1 a2 a3 a4 x : Int) (v5 v6 v7 v2 : Value) : Array.foldl (fun (cs : Array Value) (x : Value × Nat) => cs.setIfInBounds (8 + x.snd) x.fst) ((((((((searchO.setIfInBounds 0 (.int .i64 a0)).setIfInBounds 1 (.int .i64 a1)).setIfInBounds 2 (.int .i64 a2)).setIfInBounds 3 (.int .i64 a3)).setIfInBounds 4 (.int .i64 a4)).setIfInBounds 5 v5).setIfInBounds 6 v6).setIfInBounds 7 v7) (placeZ x v2).zipIdx 0 67 = #[.int .i64 a0, .int .i64 a1, .int .i64 a2, .int .i64 a3, .int .i64 a4, v5, v6, v7] ++ placeZ x v2 ++ #[.slice none 0 0, .bool false, .string ⟨#[]⟩, .int .i64 0] := by kernel_rfl
theorem set_search (r : Rd) (vs vr vf v2 : Value) : (searchM r vs vr vf v2).setIfInBounds 77 nonS = searchZ r vs vr vf v2 := by kernel_rfl
theorem searchZ_at (w0 : World) (r : Rd) (vs vr vf v2 : Value) (t : TypeId) : SearchAt w0 (w0.alloc (.cells (searchZ r vs vr vf v2) t)) w0.heap.size r (.slice none 0 0) none [] vs vf v2 := by
  have hb := heap_alloc_new w0 (.cells (searchZ r vs vr vf v2) t)
  refine ⟨rfl, below1 w0 _, ?_, ?_, ?_, ?_, ?_, ⟨⟨_, _, hb⟩, ?_, ?_, fun a b ha hb' => ?_⟩, ⟨.slice none 0 0, ?_, World.ownsRow_nil _ _ _ _⟩, fun k u hk1 hk2 => ?_⟩
  · rw [cell_of_row _ _ _ _ _ _ hb]; kernel_rfl
  · rw [cell_of_row _ _ _ _ _ _ hb]; kernel_rfl
  · rw [cell_of_row _ _ _ _ _ _ hb]; kernel_rfl
  · rw [cell_of_row _ _ _ _ _ _ hb]; kernel_rfl
  · rw [cell_of_row _ _ _ _ _ _ hb]; kernel_rfl
  · rw [cell_of_row _ _ _ _ _ _ hb]; kernel_rfl
  · rw [cell_of_row _ _ _ _ _ _ hb]; kernel_rfl
  · rw [cell_of_row _ _ _ _ _ _ hb]
    have e1 : searchZ r vs vr vf v2 = (ground r vs vr vf ++ #[.int .i64 r.vans, v2]) ++ (Array.replicate 64 (.int .i64 0) ++ #[.slice none 0 0, .slice none 0 0, .bool false, nonS, .int .i64 0]) := by unfold searchZ placeZ arcsZ; simp
    rw [e1, Array.getElem?_append_right (by simp [ground]; omega), Array.getElem?_append_left (by simp [ground]; omega), Array.getElem?_replicate, if_pos (by simp [ground]; omega)]
    rfl
  · rw [cell_of_row _ _ _ _ _ _ hb]; kernel_rfl
  · unfold exS at hk2
    by_cases e1 : k = 75
    · rw [if_pos e1] at hk2; cases hk2; subst e1; rw [cell_of_row _ _ _ _ _ _ hb]; kernel_rfl
    · rw [if_neg e1] at hk2
      by_cases e2 : k = 76
      · rw [if_pos e2] at hk2; cases hk2; subst e2; rw [cell_of_row _ _ _ _ _ _ hb]; kernel_rfl
      · rw [if_neg e2] at hk2
        by_cases e3 : k = 77
        · rw [if_pos e3] at hk2; cases hk2; subst e3; rw [cell_of_row _ _ _ _ _ _ hb]; kernel_rfl
        · rw [if_neg e3] at hk2
          by_cases e4 : k = 78
          · rw [if_pos e4] at hk2; cases hk2; subst e4; rw [cell_of_row _ _ _ _ _ _ hb]; kernel_rfl
          · rw [if_neg e4] at hk2; cases hk2
theorem nodes_tree {w : World} {B : Nat} {v : Value} {L : List NodeT} (h : NodesR w B v L) : TreeO w v L := by
  have hv : ∃ ao c, v = .slice ao L.length c := by
    obtain ⟨us, _, h2, _⟩ := h
    obtain ⟨ao, c, e, _, _⟩ := own_val h2
    exact ⟨ao, c, e⟩
  obtain ⟨ao, c, e⟩ := hv
  refine ⟨ao, c, e, fun i hi => ?_⟩
  obtain ⟨g, c2, ai, ci, e2, _, hl, x0, x1, hlr⟩ := h.at hi
  rw [e] at e2
  cases e2
  refine ⟨g, 0, ai, ci, rfl, hl, by rw [Nat.zero_add]; exact x0, by rw [Nat.zero_add]; exact x1, ?_⟩
  obtain ⟨a, c3, e3, hz⟩ := hlr
  refine ⟨a, c3, e3, fun j hj => ?_⟩
  obtain ⟨g', k1, k2, k3⟩ := hz j hj
  exact ⟨g', 0, k1, k2, by rw [Nat.zero_add]; exact k3⟩

set_option maxRecDepth 100000 in
set_option maxHeartbeats 8000000 in
theorem solve_ok (s : ByteArray) (r : Rd) (B b : Nat) (w : World) (hs : s.size ≤ maxLen) (hp : parseS s.data.toList = (r, 0, 0)) (hok : RdOk r) (hb : b ≤ 144115188075855872) (hT : TabX B w) (hB : B ≤ w.heap.size) :
    Calls Tryz.prog 24 #[.string s, .int .i64 b] w fun e w' => e = .returned (.tuple #[.agg #[.int .i64 (ansV (insOf r (siteD r)) b), .string ⟨(ansP (insOf r (siteD r)) b).toArray⟩, .int .i64 (ansC (insOf r (siteD r)) b), .string ⟨(ansT (insOf r (siteD r)) b).toArray⟩], .int .i64 0]) ∧ GoodTo (insOf r (siteD r)) b ∧ Below w.heap.size w w' := by
  have HCP : Hid (∀ W, Calls Tryz.prog 37 #[.string s] W (Parsed W (r, 0, 0))) := fun W => by rw [← hp]; exact parse_any s W hs
  have HOK := hid hok
  have hns := HOK.out.nstops
  have hnr := HOK.out.nroads
  have HT := hid hT
  obtain ⟨W0, hW0⟩ : ∃ W0, W0 = w.alloc (.cells #[.int .i64 0, .string ⟨#[]⟩, .int .i64 0, .string ⟨#[]⟩] 35) := ⟨_, rfl⟩
  have HB0 : Hid (Below w.heap.size w W0) := by show Below _ _ _; rw [hW0]; exact below1 w _
  have hz0w : W0.heap.size = w.heap.size + 1 := by rw [hW0]; simp
  have hbx0 : W0.heap[w.heap.size]? = some (.cells #[.int .i64 0, .string ⟨#[]⟩, .int .i64 0, .string ⟨#[]⟩] 35 (0, 0)) := by rw [hW0]; exact heap_alloc_new w _
  have HBX0 := hid hbx0
  have HWQ0 := hid hW0
  clear hok hs hp hT hW0 hbx0
  go_enter Tryz.func24, Tryz.ntmps24
  go_wp2_with fail
  rw [← HWQ0.out]
  refine (HCP.out _).mono ?_
  rintro e1 w1 ⟨vs, vr, rfl, hos, hor, hb1⟩
  unfold inst
  obtain ⟨aos, caps, hv1, _, _⟩ := own_val hos
  obtain ⟨aor, capr, hv2, _, _⟩ := own_val hor
  subst hv1 hv2
  have HB1 : Hid (Below W0.heap.size W0 w1) := hb1
  have HS1 := hid hos
  have HR1 := hid hor
  have hz1w := hb1.size
  have hbb : ¬ (b : Int) < 0 := by omega
  have hbc : ¬ (144115188075855872 : Int) < (b : Int) := by omega
  clear hos hor hb1 HCP
  go_wp2_with fail
  refine (of_any W0.heap.size W0.heap.size r (.slice aos r.stops.length caps) (.slice aor r.roads.length capr) _ HOK.out (HS1.out.alloc _) (HR1.out.alloc _)).mono ?_
  rintro e2 w2 ⟨v2, rfl, hg2, hb2⟩
  have hb12 : Below w1.heap.size w1 w2 := (below1 w1 _).trans (hb2.mono (by simp))
  have hbx2 : w2.heap[w1.heap.size]? = some (.cells #[.int .i64 r.vans, .int .i64 r.load, .int .i64 r.close, .int .i64 r.nodes, .int .i64 r.home, .slice aos r.stops.length caps, .slice aor r.roads.length capr] 28 (0, 0)) := (hb2.block _ (by simp)).trans (heap_alloc_new w1 _)
  obtain ⟨q0, q1, q2, q3, q4, q5, q6, _⟩ := seven hbx2
  have hxl : w1.heap.size < w2.heap.size := (Array.getElem?_eq_some_iff.1 hbx2).1
  have HB2 : Hid (Below W0.heap.size W0 w2) := HB1.out.trans (hb12.mono HB1.out.size)
  have HSQ2 : Hid (SqR w2 v2 (r.stops.length + 1) (siteD r)) := hg2.sq (by omega)
  have HS2 := hid (own_below HS1.out hb12)
  have HR2 := hid (own_below HR1.out hb12)
  obtain ⟨g7, _, rfl, _⟩ := hg2
  clear hb2 hb12 HS1 HR1 HB1 hbx2
  unfold ground
  go_wp2_with fail
  obtain ⟨W2, hW2⟩ : ∃ W2, W2 = w2.alloc (.cells (ground r (.slice aos r.stops.length caps) (.slice aor r.roads.length capr) (.slice (some ⟨g7, 0, none⟩) (r.stops.length + 1) (r.stops.length + 1))) 82) := ⟨_, rfl⟩
  have hW2' := hW2
  unfold ground at hW2'
  rw [← hW2']
  have hbW2 : Below w2.heap.size w2 W2 := by rw [hW2]; exact below1 w2 _
  have hbx3 : W2.heap[w2.heap.size]? = some (.cells (ground r (.slice aos r.stops.length caps) (.slice aor r.roads.length capr) (.slice (some ⟨g7, 0, none⟩) (r.stops.length + 1) (r.stops.length + 1))) 82 (0, 0)) := by rw [hW2]; exact heap_alloc_new w2 _
  have HBX3 := hid hbx3
  have HBW2 := hid hbW2
  clear hW2 hW2' q0 q1 q2 q3 q4 q5 q6 hbx3 hbW2
  refine (root_any W0.heap.size W0.heap.size r (.slice aos r.stops.length caps) (.slice aor r.roads.length capr) _ HOK.out (own_below HS2.out HBW2.out) (own_below HR2.out HBW2.out)).mono ?_
  rintro e3 w3 ⟨v3, rfl, hg3, hb3⟩
  have hb23 : Below w2.heap.size w2 w3 := HBW2.out.trans (hb3.mono HBW2.out.size)
  have HB3 : Hid (Below W0.heap.size W0 w3) := HB2.out.trans (hb23.mono HB2.out.size)
  have HSQ3 : Hid (SqR w3 v3 (r.stops.length + 1) (siteD r)) := hg3.sq (by omega)
  have HSQ2' : Hid (SqR w3 (.slice (some ⟨g7, 0, none⟩) (r.stops.length + 1) (r.stops.length + 1)) (r.stops.length + 1) (siteD r)) := HSQ2.out.below hb23
  have HST3 : Hid (StR w3 (.slice aos r.stops.length caps) r) := (StR.own HS2.out (fun s hs => (HOK.out.nice.stops s hs).1)).below hb23
  have hl2 : w2.heap.size < W2.heap.size := (Array.getElem?_eq_some_iff.1 HBX3.out).1
  have hbx4 : w3.heap[w2.heap.size]? = _ := (hb3.block _ hl2).trans HBX3.out
  have hl3 : w2.heap.size < w3.heap.size := (Array.getElem?_eq_some_iff.1 hbx4).1
  obtain ⟨q0, q1, q2, q3, q4, q5, q6, q7⟩ := ground_cells hbx4
  obtain ⟨g8, _, rfl, _⟩ := hg3
  obtain ⟨cp, hcp⟩ : ∃ cp, cp = placeZ r.vans (.slice (some ⟨g8, 0, none⟩) (r.stops.length + 1) (r.stops.length + 1)) := ⟨_, rfl⟩
  have hcps : cp.size = 67 := by rw [hcp]; exact placeZ_size _ _
  rw [← hcp]
  have hcpo : cp.all (·.oneCell') = true := by
    rw [hcp, Array.all_eq_true_iff_forall_mem]
    intro u hu
    exact placeZ_one rfl u (Array.mem_toList_iff.2 hu)
  have hst := run_storeCells_new (P := Tryz.prog) w3 90 Tryz.zeroCells90 cp (by rw [hcps]; kernel_rfl) (by rw [hcps]; kernel_rfl) hcpo
  have hfw : Array.foldl (fun (cs : Array Value) (x : Value × Nat) => cs.setIfInBounds (8 + x.snd) x.fst) ((((((((searchO.setIfInBounds 0 (.int .i64 r.vans)).setIfInBounds 1 (.int .i64 r.load)).setIfInBounds 2 (.int .i64 r.close)).setIfInBounds 3 (.int .i64 r.nodes)).setIfInBounds 4 (.int .i64 r.home)).setIfInBounds 5 (.slice aos r.stops.length caps)).setIfInBounds 6 (.slice aor r.roads.length capr)).setIfInBounds 7 (.slice (some ⟨g7, 0, none⟩) (r.stops.length + 1) (r.stops.length + 1))) cp.zipIdx 0 67 = searchM r (.slice aos r.stops.length caps) (.slice aor r.roads.length capr) (.slice (some ⟨g7, 0, none⟩) (r.stops.length + 1) (r.stops.length + 1)) (.slice (some ⟨g8, 0, none⟩) (r.stops.length + 1) (r.stops.length + 1)) := by rw [hcp]; exact fold_search _ _ _ _ _ _ _ _ _ _
  obtain ⟨cm, hcm⟩ : ∃ cm, cm = searchM r (.slice aos r.stops.length caps) (.slice aor r.roads.length capr) (.slice (some ⟨g7, 0, none⟩) (r.stops.length + 1) (r.stops.length + 1)) (.slice (some ⟨g8, 0, none⟩) (r.stops.length + 1) (r.stops.length + 1)) := ⟨_, rfl⟩
  rw [← hcm] at hfw
  have hcms : cm.size = 79 := by rw [hcm]; exact searchM_size _ _ _ _ _
  obtain ⟨cw, hcw⟩ : ∃ cw, cw = cm.setIfInBounds 77 nonS := ⟨_, rfl⟩
  have hcz : cw = searchZ r (.slice aos r.stops.length caps) (.slice aor r.roads.length capr) (.slice (some ⟨g7, 0, none⟩) (r.stops.length + 1) (r.stops.length + 1)) (.slice (some ⟨g8, 0, none⟩) (r.stops.length + 1) (r.stops.length + 1)) := by rw [hcw, hcm]; exact set_search _ _ _ _ _
  obtain ⟨V0, hV0⟩ : ∃ V0, V0 = w3.alloc (.cells cp 90) := ⟨_, rfl⟩
  have hzV : V0.heap.size = w3.heap.size + 1 := by rw [hV0]; simp
  have hb3V : Below w3.heap.size w3 V0 := by rw [hV0]; exact below1 w3 _
  have HSA : Hid (SearchAt V0 (V0.alloc (.cells cw 94)) (w3.heap.size + 1) r (.slice none 0 0) none [] (.slice aos r.stops.length caps) (.slice (some ⟨g7, 0, none⟩) (r.stops.length + 1) (r.stops.length + 1)) (.slice (some ⟨g8, 0, none⟩) (r.stops.length + 1) (r.stops.length + 1))) := by
    have h := searchZ_at V0 r (.slice aos r.stops.length caps) (.slice aor r.roads.length capr) (.slice (some ⟨g7, 0, none⟩) (r.stops.length + 1) (r.stops.length + 1)) (.slice (some ⟨g8, 0, none⟩) (r.stops.length + 1) (r.stops.length + 1)) 94
    rw [← hcz, hzV] at h
    exact h
  have HBV : Hid (Below W0.heap.size W0 V0) := HB3.out.trans (hb3V.mono HB3.out.size)
  have HSTV := hid (HST3.out.below hb3V)
  have HSQ2V := hid (HSQ2'.out.below hb3V)
  have HSQ3V := hid (HSQ3.out.below hb3V)
  have HVQ := hid hV0
  have HCWQ := hid hcw
  have HZV := hid hzV
  clear hcm hcw hcz hV0 hb3V hzV HSQ3 HSQ2' HST3
  have hzw := zero_search
  have hzs := searchO_size
  have HCPQ := hid hcp
  have hz3 := HB3.out.size
  clear hcp hcpo hb3 hb23 HS2 HR2 HBX3 HBW2 hbx4 hl2 HSQ2
  go_wp2_with fail
  refine wp_load_row (P := Tryz.prog) 90 (.tmp 10) rfl w3.heap.size rfl 90 cp (0, 0) _ (heap_alloc_new w3 _) Tryz.underlying90 rfl (by rw [hcps]; kernel_rfl) ?_
  go_wp2_with fail
  have hcq : cm.setIfInBounds 77 (.string ⟨#[110, 111, 110, 101]⟩) = cw := HCWQ.out.symm
  rw [← HVQ.out, hcq]
  have HBw : Hid (Below w.heap.size w V0) := HB0.out.trans (HBV.out.mono (by omega))
  have HTV := hid (HT.out.on HBw.out hB)
  clear hst hzw hzs hfw hcps q0 q1 q2 q3 q4 q5 q6 q7 HCPQ hcq hcms HCWQ HVQ hbb hbc
  have hzq : V0.heap.size = w3.heap.size + 1 := HZV.out
  refine (grow_any V0 _ (w3.heap.size + 1) B b r (.slice none 0 0) _ _ _ _ HOK.out HTV.out (by omega) hb ⟨HSA.out, NodesR.nil _ _, fun j hj => absurd hj (by omega), rfl⟩ HSTV.out HSQ2V.out HSQ3V.out).mono ?_
  rintro e5 w5 ⟨rfl, vl, hs5, hn5, hgt⟩
  have HS5 := hid hs5
  have HN5 := hid hn5
  have HGT := hid hgt
  have hbp : Below (w3.heap.size + 1) V0 w5 := hs5.below
  have HB5 : Hid (Below w.heap.size w w5) := HBw.out.trans (hbp.mono (by omega))
  have HB50 : Hid (Below W0.heap.size W0 w5) := HBV.out.trans (hbp.mono (by omega))
  have hbx5 := (HB50.out.block w.heap.size (by omega)).trans HBX0.out
  have y0 : w5.cell? ⟨w.heap.size, 0, none⟩ = _ := cell_of_row w5 _ 0 _ _ _ hbx5
  have y1 : w5.cell? ⟨w.heap.size, 1, none⟩ = _ := cell_of_row w5 _ 1 _ _ _ hbx5
  have y2 : w5.cell? ⟨w.heap.size, 2, none⟩ = _ := cell_of_row w5 _ 2 _ _ _ hbx5
  have y3 : w5.cell? ⟨w.heap.size, 3, none⟩ = _ := cell_of_row w5 _ 3 _ _ _ hbx5
  have ly : w.heap.size < w5.heap.size := (Array.getElem?_eq_some_iff.1 hbx5).1
  have fy0 := frozen_of_row w5 w.heap.size 0 _ _ hbx5
  have fy1 := frozen_of_row w5 w.heap.size 1 _ _ hbx5
  have fy2 := frozen_of_row w5 w.heap.size 2 _ _ hbx5
  have fy3 := frozen_of_row w5 w.heap.size 3 _ _ hbx5
  have lp := hs5.arcs.lt
  have c75 := search_list hs5
  have c76 := search_found hs5
  have c77 := search_plan hs5
  have c78 := search_cost hs5
  have HBX5 := hid hbx5
  obtain ⟨avl, nvl, cvl, hvl⟩ : ∃ a n c, vl = .slice a n c := by
    obtain ⟨us, _, h2, _⟩ := hn5
    obtain ⟨a, c, e, _, _⟩ := own_val h2
    exact ⟨a, _, c, e⟩
  subst hvl
  clear hs5 hn5 hgt hbp hbx5 HSA
  cases hd : (growG (insOf r (siteD r)) b).2 with
  | false =>
    have HVV : Hid (ansV (insOf r (siteD r)) b = 3 ∧ ansT (insOf r (siteD r)) b = []) := by
      show _ ∧ _
      unfold ansV ansT
      rw [hd]; exact ⟨rfl, rfl⟩
    clear hd
    have nq1 : w.heap.size ≠ w3.heap.size + 1 := by omega
    have nq2 : w3.heap.size + 1 ≠ w.heap.size := by omega
    go_wp2_with fail
    go_region_held3 (fun w' => w'.cell? ⟨w3.heap.size + 1, 77, none⟩ = some (.string ⟨(planV (growG (insOf r (siteD r)) b).1.fc).toArray⟩) ∧ w'.cell? ⟨w3.heap.size + 1, 78, none⟩ = some (.int .i64 (costV (insOf r (siteD r)) (growG (insOf r (siteD r)) b).1.fc))) (go_keep) (fail)
    go_wp2_with fail
    refine bodyPost_ret (v := .tuple #[.agg #[.int .i64 3, .string ⟨(planV (growG (insOf r (siteD r)) b).1.fc).toArray⟩, .int .i64 (costV (insOf r (siteD r)) (growG (insOf r (siteD r)) b).1.fc), .string ⟨#[]⟩], .int .i64 0]) (by simp [results, Tryz.results24, go_sem, y0, y1, y2, y3]) rfl ?_
    refine ⟨by rw [HVV.out.1, HVV.out.2]; rfl, HGT.out, ?_⟩
    first | exact ((((HB5.out.setCell (by exact Nat.le_refl _) _).setCell (by exact Nat.le_refl _) _).setCell (by exact Nat.le_refl _) _).setCell (by exact Nat.le_refl _) _) | exact ((((HB5.out.setCell (by exact Nat.le_refl _) _).setCell (by exact Nat.le_refl _) _).setCell (by exact Nat.le_refl _) _).setCell (by exact Nat.le_refl _) _).drew
  | true =>
    obtain ⟨_, hend⟩ := grw_inv (insFine HOK.out) hns (insVans HOK.out).1 (insVans HOK.out).2 b HGT.out
    obtain ⟨hse, _⟩ := hend hd
    have HVV : Hid (ansV (insOf r (siteD r)) b = (if (growG (insOf r (siteD r)) b).1.fc.isSome = true then 1 else 2) ∧ ansT (insOf r (siteD r)) b = textT (growG (insOf r (siteD r)) b).1.L) := by
      show _ ∧ _
      unfold ansV ansT
      rw [hd]; exact ⟨rfl, rfl⟩
    have HWT : Hid (writeT (growG (insOf r (siteD r)) b).1.L = (textT (growG (insOf r (siteD r)) b).1.L, 0)) := by show _ = _; unfold writeT; rw [if_pos hse.tree]
    have HTW := hid (twrite_any B (growG (insOf r (siteD r)) b).1.L _ w5 (HTV.out.on HS5.out.below (by omega)) (by omega) (by have h1 := hse.len; have h2 := bq_bound; omega) (fun nd hm => by have := (node_facts hse.tree hm).1; omega) (nodes_tree HN5.out))
    rw [HWT.out] at HTW
    clear hd hend hse HWT
    go_wp2_with fail
    refine HTW.out.mono ?_
    rintro e6 w6 ⟨rfl, hb6⟩
    have z0 : w6.cell? ⟨w.heap.size, 0, none⟩ = _ := (hb6.cell (by exact ly)).trans y0
    have z1 : w6.cell? ⟨w.heap.size, 1, none⟩ = _ := (hb6.cell (by exact ly)).trans y1
    have z2 : w6.cell? ⟨w.heap.size, 2, none⟩ = _ := (hb6.cell (by exact ly)).trans y2
    have z3 : w6.cell? ⟨w.heap.size, 3, none⟩ = _ := (hb6.cell (by exact ly)).trans y3
    have hbx6 := (hb6.block _ ly).trans HBX5.out
    have lz : w.heap.size < w6.heap.size := Nat.lt_of_lt_of_le ly hb6.size
    have fz0 := frozen_of_row w6 w.heap.size 0 _ _ hbx6
    have fz1 := frozen_of_row w6 w.heap.size 1 _ _ hbx6
    have fz2 := frozen_of_row w6 w.heap.size 2 _ _ hbx6
    have fz3 := frozen_of_row w6 w.heap.size 3 _ _ hbx6
    have lp6 : w3.heap.size + 1 < w6.heap.size := Nat.lt_of_lt_of_le lp hb6.size
    have d76 : w6.cell? ⟨w3.heap.size + 1, 76, none⟩ = _ := (hb6.cell (by exact lp)).trans c76
    have d77 : w6.cell? ⟨w3.heap.size + 1, 77, none⟩ = _ := (hb6.cell (by exact lp)).trans c77
    have d78 : w6.cell? ⟨w3.heap.size + 1, 78, none⟩ = _ := (hb6.cell (by exact lp)).trans c78
    have HB6 : Hid (Below w.heap.size w w6) := HB5.out.trans (hb6.mono HB5.out.size)
    have nq1 : w.heap.size ≠ w3.heap.size + 1 := by omega
    have nq2 : w3.heap.size + 1 ≠ w.heap.size := by omega
    clear hb6 hbx6 HTW y0 y1 y2 y3 fy0 fy1 fy2 fy3 c75 c76 c77 c78 ly lp
    have HAP : Hid (ansP (insOf r (siteD r)) b = planV (growG (insOf r (siteD r)) b).1.fc ∧ ansC (insOf r (siteD r)) b = costV (insOf r (siteD r)) (growG (insOf r (siteD r)) b).1.fc) := ⟨rfl, rfl⟩
    generalize (growG (insOf r (siteD r)) b).1.fc.isSome = bf at *
    cases bf with
    | false =>
      go_wp2_with fail
      go_region_held3 (fun w' => w'.cell? ⟨w3.heap.size + 1, 77, none⟩ = some (.string ⟨(planV (growG (insOf r (siteD r)) b).1.fc).toArray⟩) ∧ w'.cell? ⟨w3.heap.size + 1, 78, none⟩ = some (.int .i64 (costV (insOf r (siteD r)) (growG (insOf r (siteD r)) b).1.fc))) (go_keep) (fail)
      go_wp2_with fail
      refine bodyPost_ret (v := .tuple #[.agg #[.int .i64 2, .string ⟨(planV (growG (insOf r (siteD r)) b).1.fc).toArray⟩, .int .i64 (costV (insOf r (siteD r)) (growG (insOf r (siteD r)) b).1.fc), .string ⟨(textT (growG (insOf r (siteD r)) b).1.L).toArray⟩], .int .i64 0]) (by simp [results, Tryz.results24, go_sem, z0, z1, z2, z3]) rfl ?_
      refine ⟨by rw [HVV.out.1, HVV.out.2, HAP.out.1, HAP.out.2]; rfl, HGT.out, ?_⟩
      first | exact ((((HB6.out.setCell (by exact Nat.le_refl _) _).setCell (by exact Nat.le_refl _) _).setCell (by exact Nat.le_refl _) _).setCell (by exact Nat.le_refl _) _) | exact ((((HB6.out.setCell (by exact Nat.le_refl _) _).setCell (by exact Nat.le_refl _) _).setCell (by exact Nat.le_refl _) _).setCell (by exact Nat.le_refl _) _).drew
    | true =>
      go_wp2_with fail
      go_region_held3 (fun w' => w'.cell? ⟨w3.heap.size + 1, 77, none⟩ = some (.string ⟨(planV (growG (insOf r (siteD r)) b).1.fc).toArray⟩) ∧ w'.cell? ⟨w3.heap.size + 1, 78, none⟩ = some (.int .i64 (costV (insOf r (siteD r)) (growG (insOf r (siteD r)) b).1.fc))) (go_keep) (fail)
      go_wp2_with fail
      refine bodyPost_ret (v := .tuple #[.agg #[.int .i64 1, .string ⟨(planV (growG (insOf r (siteD r)) b).1.fc).toArray⟩, .int .i64 (costV (insOf r (siteD r)) (growG (insOf r (siteD r)) b).1.fc), .string ⟨(textT (growG (insOf r (siteD r)) b).1.L).toArray⟩], .int .i64 0]) (by simp [results, Tryz.results24, go_sem, z0, z1, z2, z3]) rfl ?_
      refine ⟨by rw [HVV.out.1, HVV.out.2, HAP.out.1, HAP.out.2]; rfl, HGT.out, ?_⟩
      first | exact ((((HB6.out.setCell (by exact Nat.le_refl _) _).setCell (by exact Nat.le_refl _) _).setCell (by exact Nat.le_refl _) _).setCell (by exact Nat.le_refl _) _) | exact ((((HB6.out.setCell (by exact Nat.le_refl _) _).setCell (by exact Nat.le_refl _) _).setCell (by exact Nat.le_refl _) _).setCell (by exact Nat.le_refl _) _).drew
end Go.Proofs.YtebinaopncclgabGreatDoor
namespace Go.Proofs.YtebinaopncclgabGreatDoor
open Go.RowKit Go.IntWalk

set_option maxRecDepth 100000 in
set_option maxHeartbeats 8000000 in
theorem gcheck_ok (s l t : ByteArray) (r : Rd) (w : World) (hs : s.size ≤ maxLen) (hl : l.size ≤ maxLen) (ht : ShortT t) (hp : parseS s.data.toList = (r, 0, 0)) (hok : RdOk r) :
    Calls Tryz.prog 93 #[.string s, .string l, .string t] w fun e w' => e = .returned (.tuple #[.int .i64 (checkS r l.data.toList t.data.toList).1, .int .i64 (checkS r l.data.toList t.data.toList).2]) ∧ Below w.heap.size w w' := by
  have HCP : Hid (∀ W, Calls Tryz.prog 37 #[.string s] W (Parsed W (r, 0, 0))) := fun W => by rw [← hp]; exact parse_any s W hs
  have HOK := hid hok
  have hns := HOK.out.nstops
  have hnr := HOK.out.nroads
  clear hok hs hp
  go_enter Tryz.func93, Tryz.ntmps93
  go_wp2_with fail
  refine (HCP.out _).mono ?_
  rintro e1 w1 ⟨vs, vr, rfl, hos, hor, hb1⟩
  unfold inst
  obtain ⟨aos, caps, hv1, _, _⟩ := own_val hos
  obtain ⟨aor, capr, hv2, _, _⟩ := own_val hor
  subst hv1 hv2
  have HB1 : Hid (Below w.heap.size w w1) := by first | exact hb1 | exact (below1 w _).trans (hb1.mono (by simp))
  have HS1 := hid hos
  have HR1 := hid hor
  clear hos hor hb1 HCP
  go_wp2_with fail
  refine (of_any w.heap.size w.heap.size r (.slice aos r.stops.length caps) (.slice aor r.roads.length capr) _ HOK.out (HS1.out.alloc _) (HR1.out.alloc _)).mono ?_
  rintro e2 w2 ⟨v2, rfl, hg2, hb2⟩
  have hb12 : Below w1.heap.size w1 w2 := (below1 w1 _).trans (hb2.mono (by simp))
  have hbx2 : w2.heap[w1.heap.size]? = some (.cells #[.int .i64 r.vans, .int .i64 r.load, .int .i64 r.close, .int .i64 r.nodes, .int .i64 r.home, .slice aos r.stops.length caps, .slice aor r.roads.length capr] 28 (0, 0)) := (hb2.block _ (by simp)).trans (heap_alloc_new w1 _)
  obtain ⟨q0, q1, q2, q3, q4, q5, q6, _⟩ := seven hbx2
  have hxl : w1.heap.size < w2.heap.size := (Array.getElem?_eq_some_iff.1 hbx2).1
  have HB2 : Hid (Below w.heap.size w w2) := HB1.out.trans (hb12.mono HB1.out.size)
  have HSQ2 : Hid (SqR w2 v2 (r.stops.length + 1) (siteD r)) := hg2.sq (by omega)
  have HS2 := hid (own_below HS1.out hb12)
  have HR2 := hid (own_below HR1.out hb12)
  obtain ⟨g7, _, rfl, _⟩ := hg2
  clear hb2 hb12 HS1 HR1 HB1 hbx2
  unfold ground
  go_wp2_with fail
  obtain ⟨W2, hW2⟩ : ∃ W2, W2 = w2.alloc (.cells (ground r (.slice aos r.stops.length caps) (.slice aor r.roads.length capr) (.slice (some ⟨g7, 0, none⟩) (r.stops.length + 1) (r.stops.length + 1))) 82) := ⟨_, rfl⟩
  have hW2' := hW2
  unfold ground at hW2'
  rw [← hW2']
  have hbW2 : Below w2.heap.size w2 W2 := by rw [hW2]; exact below1 w2 _
  have hbx3 : W2.heap[w2.heap.size]? = some (.cells (ground r (.slice aos r.stops.length caps) (.slice aor r.roads.length capr) (.slice (some ⟨g7, 0, none⟩) (r.stops.length + 1) (r.stops.length + 1))) 82 (0, 0)) := by rw [hW2]; exact heap_alloc_new w2 _
  have HBX3 := hid hbx3
  have HBW2 := hid hbW2
  clear hW2 hW2' q0 q1 q2 q3 q4 q5 q6 hbx3 hbW2
  refine (root_any w.heap.size w.heap.size r (.slice aos r.stops.length caps) (.slice aor r.roads.length capr) _ HOK.out (own_below HS2.out HBW2.out) (own_below HR2.out HBW2.out)).mono ?_
  rintro e3 w3 ⟨v3, rfl, hg3, hb3⟩
  have hb23 : Below w2.heap.size w2 w3 := HBW2.out.trans (hb3.mono HBW2.out.size)
  have HB3 : Hid (Below w.heap.size w w3) := HB2.out.trans (hb23.mono HB2.out.size)
  have HSQ3 : Hid (SqR w3 v3 (r.stops.length + 1) (siteD r)) := hg3.sq (by omega)
  have HSQ2' : Hid (SqR w3 (.slice (some ⟨g7, 0, none⟩) (r.stops.length + 1) (r.stops.length + 1)) (r.stops.length + 1) (siteD r)) := HSQ2.out.below hb23
  have HST3 : Hid (StR w3 (.slice aos r.stops.length caps) r) := (StR.own HS2.out (fun s hs => (HOK.out.nice.stops s hs).1)).below hb23
  have hl2 : w2.heap.size < W2.heap.size := (Array.getElem?_eq_some_iff.1 HBX3.out).1
  have hbx4 : w3.heap[w2.heap.size]? = _ := (hb3.block _ hl2).trans HBX3.out
  have hl3 : w2.heap.size < w3.heap.size := (Array.getElem?_eq_some_iff.1 hbx4).1
  obtain ⟨q0, q1, q2, q3, q4, q5, q6, q7⟩ := ground_cells hbx4
  obtain ⟨g8, _, rfl, _⟩ := hg3
  obtain ⟨cp, hcp⟩ : ∃ cp, cp = placeZ r.vans (.slice (some ⟨g8, 0, none⟩) (r.stops.length + 1) (r.stops.length + 1)) := ⟨_, rfl⟩
  have hcps : cp.size = 67 := by rw [hcp]; exact placeZ_size _ _
  rw [← hcp]
  have hcpo : cp.all (·.oneCell') = true := by
    rw [hcp, Array.all_eq_true_iff_forall_mem]
    intro u hu
    exact placeZ_one rfl u (Array.mem_toList_iff.2 hu)
  have hst := run_storeCells_new (P := Tryz.prog) w3 90 Tryz.zeroCells90 cp (by rw [hcps]; kernel_rfl) (by rw [hcps]; kernel_rfl) hcpo
  have hfw : Array.foldl (fun (cs : Array Value) (x : Value × Nat) => cs.setIfInBounds (8 + x.snd) x.fst) ((((((((walkO.setIfInBounds 0 (.int .i64 r.vans)).setIfInBounds 1 (.int .i64 r.load)).setIfInBounds 2 (.int .i64 r.close)).setIfInBounds 3 (.int .i64 r.nodes)).setIfInBounds 4 (.int .i64 r.home)).setIfInBounds 5 (.slice aos r.stops.length caps)).setIfInBounds 6 (.slice aor r.roads.length capr)).setIfInBounds 7 (.slice (some ⟨g7, 0, none⟩) (r.stops.length + 1) (r.stops.length + 1))) cp.zipIdx 0 67 = walkZ r (.slice aos r.stops.length caps) (.slice aor r.roads.length capr) (.slice (some ⟨g7, 0, none⟩) (r.stops.length + 1) (r.stops.length + 1)) (.slice (some ⟨g8, 0, none⟩) (r.stops.length + 1) (r.stops.length + 1)) := by rw [hcp]; exact fold_walk _ _ _ _ _ _ _ _ _ _
  obtain ⟨cw, hcw⟩ : ∃ cw, cw = walkZ r (.slice aos r.stops.length caps) (.slice aor r.roads.length capr) (.slice (some ⟨g7, 0, none⟩) (r.stops.length + 1) (r.stops.length + 1)) (.slice (some ⟨g8, 0, none⟩) (r.stops.length + 1) (r.stops.length + 1)) := ⟨_, rfl⟩
  rw [← hcw] at hfw
  obtain ⟨W0, hW0⟩ : ∃ W0, W0 = w3.alloc (.cells cp 90) := ⟨_, rfl⟩
  have hz0 : W0.heap.size = w3.heap.size + 1 := by rw [hW0]; simp
  have hb30 : Below w3.heap.size w3 W0 := by rw [hW0]; exact below1 w3 _
  have HWA : Hid (WalkAt W0 (W0.alloc (.cells cw 222)) (w3.heap.size + 1) r none [] (.slice aos r.stops.length caps) (.slice (some ⟨g7, 0, none⟩) (r.stops.length + 1) (r.stops.length + 1)) (.slice (some ⟨g8, 0, none⟩) (r.stops.length + 1) (r.stops.length + 1))) := by
    have h := walkZ_at W0 r (.slice aos r.stops.length caps) (.slice aor r.roads.length capr) (.slice (some ⟨g7, 0, none⟩) (r.stops.length + 1) (r.stops.length + 1)) (.slice (some ⟨g8, 0, none⟩) (r.stops.length + 1) (r.stops.length + 1)) 222
    rw [← hcw, hz0] at h
    exact h
  have HB0 : Hid (Below w.heap.size w W0) := HB3.out.trans (hb30.mono HB3.out.size)
  have HST0 := hid (HST3.out.below hb30)
  have HSQ20 := hid (HSQ2'.out.below hb30)
  have HSQ30 := hid (HSQ3.out.below hb30)
  have HW0 := hid hW0
  have HZ0 := hid hz0
  clear hcw hW0 hb30 hz0 HSQ3 HSQ2' HST3
  have hzw := zero_walk
  have hzs := walkO_size
  have HCP := hid hcp
  clear hcp hcpo hb3 hb23 HS2 HR2 HBX3 HBW2 hbx4 hl2 HSQ2
  go_wp2_with fail
  refine wp_load_row (P := Tryz.prog) 90 (.tmp 12) rfl w3.heap.size rfl 90 cp (0, 0) _ (heap_alloc_new w3 _) Tryz.underlying90 rfl (by rw [hcps]; kernel_rfl) ?_
  go_wp2_with fail
  rw [← HW0.out]
  refine (take_any W0 _ (w3.heap.size + 1) r l _ _ _ HOK.out hl HWA.out HST0.out HSQ20.out).mono ?_
  rintro e4 w4 ⟨rfl, hw4, hb4⟩
  have hwz : w.heap.size ≤ w3.heap.size + 1 := by have := HB0.out.size; rw [HZ0.out] at this; exact this
  have HB4 : Hid (Below w.heap.size w w4) := HB0.out.trans (hb4.mono hwz)
  have HW4 := hid hw4
  clear hb4 hw4 HWA hst hzw hzs hfw hcps q0 q1 q2 q3 q4 q5 q6 q7 HCP HW0
  by_cases hc : (claimS r l.data.toList).2 = 0
  · have HA : Hid (checkS r l.data.toList t.data.toList = if (readT t.data.toList).2.2 ≠ 0 then ((readT t.data.toList).2.1, 14) else if firstW (insOf r (siteD r)) (claimS r l.data.toList).1 [] (readT t.data.toList).1 0 = 0 then (0, 0) else (firstW (insOf r (siteD r)) (claimS r l.data.toList).1 [] (readT t.data.toList).1 0, 15)) := by show _ = _; unfold checkS; rw [if_neg (by omega)]
    have HWK := hid (HW4.out hc)
    rw [hc]
    have ht1 := ht.1
    have HRD := hid (tread_s t w4 ht)
    clear ht
    have HTO := hid (readT_ok (s := t.data.toList))
    have hLL := readT_len t.data.toList
    rw [show t.data.toList.length = t.size by simp] at hLL
    generalize readT t.data.toList = R at *
    obtain ⟨L, line, er⟩ := R
    generalize (claimS r l.data.toList).1 = cl at *
    dsimp only at HA HTO hLL
    clear HW4 hc
    by_cases he : er = 0
    · subst he
      rw [if_neg (by simp)] at HA
      have HTR := hid (HTO.out rfl).1
      clear HTO
      go_wp2_with fail
      refine HRD.out.mono ?_
      rintro e5 w5 ⟨_, h5, hb5⟩
      obtain ⟨v5, rfl, hn5⟩ := h5 rfl
      have HN5 := hid hn5
      have HWK5 := hid (HWK.out.mv hb5)
      have hz4 : w3.heap.size + 1 < w4.heap.size := HWK.out.arcs.lt
      obtain ⟨us, _, ho5, _⟩ := hn5
      obtain ⟨av, cv, rfl, _, _⟩ := own_val ho5
      clear ho5 h5 hb5 HRD
      dsimp only
      go_wp2_with fail
      go_loopw [16] (fun i wr => ∃ (k : Nat) (P : PathT), i = .int .i64 k ∧ k ≤ L.length ∧ Hid (PathOk r.stops.length P) ∧ Hid (WalkAt W0 wr (w3.heap.size + 1) r cl P (.slice aos r.stops.length caps) (.slice (some ⟨g7, 0, none⟩) (r.stops.length + 1) (r.stops.length + 1)) (.slice (some ⟨g8, 0, none⟩) (r.stops.length + 1) (r.stops.length + 1))) ∧ Hid (NodesR wr w4.heap.size (.slice av L.length cv) L) ∧ Hid (firstW (insOf r (siteD r)) cl [] L 0 = firstW (insOf r (siteD r)) cl P (L.drop k) k)) (fun i _ => L.length - (intOf i).toNat)
      case atStart => exact ⟨0, [], rfl, Nat.zero_le _, PathOk.nil, HWK5, HN5, rfl⟩
      case round =>
        obtain ⟨k, P, rfl, hk, HP, HWR, HNR, HFW⟩ := hrel
        by_cases hlt : k < L.length
        · obtain ⟨gn, cn, ao, c', hv, hgb, hgl, x0, x1, hlr⟩ := HNR.out.at hlt
          cases hv
          have HLR := hid hlr
          have HFT := hid (node_facts HTR.out (List.getElem_mem hlt))
          have HDR := hid (List.drop_eq_getElem_cons hlt)
          generalize L[k] = nd at *
          have HSA := hid (step_any W0 wr (w3.heap.size + 1) r cl P _ _ _ _ _ nd HOK.out HP.out (by have := path_depth hns HP.out; omega) HFT.out.1 HFT.out.2.1 HFT.out.2.2 HLR.out HWR.out HST0.out HSQ20.out HSQ30.out)
          have hk1 : (k : Int) + 1 ≤ 70368744177700 := by omega
          clear hlr HFT
          cases hst : stepW (insOf r (siteD r)) cl P nd with
          | none =>
            have HF1 : Hid (firstW (insOf r (siteD r)) cl [] L 0 = k + 1) := by show _ = _; rw [HFW.out, HDR.out, firstW_cons, hst]
            rw [hst] at HSA
            have HA1 : Hid (checkS r l.data.toList t.data.toList = (k + 1, 15)) := by show _ = _; rw [HA.out, HF1.out, if_neg (by omega)]
            clear HFW HDR hst HF1 HA
            go_wp2_with fail
            refine HSA.out.mono ?_
            rintro e6 w6 ⟨h6, _⟩
            obtain ⟨rfl, hb6⟩ := h6 (by simp)
            have HB6 := hid hb6
            clear hb6 h6 HSA
            go_wp2_with fail
            refine bodyPost_ret (v := .tuple #[.int .i64 ((k : Int) + 1), .int .i64 15]) (by simp [results, Tryz.results93, go_sem]) rfl ?_
            exact ⟨by rw [HA1.out]; rfl, HB0.out.trans (HB6.out.mono hwz)⟩
          | some P' =>
            have HF1 : Hid (firstW (insOf r (siteD r)) cl [] L 0 = firstW (insOf r (siteD r)) cl P' (L.drop (k + 1)) (k + 1)) := by show _ = _; rw [HFW.out, HDR.out, firstW_cons, hst]
            have HP1 : Hid (PathOk r.stops.length P') := path_step (I := insOf r (siteD r)) HP.out hst
            rw [hst] at HSA
            clear HFW HDR hst
            go_wp2_with fail
            refine HSA.out.mono ?_
            rintro e6 w6 ⟨_, h6⟩
            obtain ⟨rfl, hw6, hk6⟩ := h6 P' (by simp)
            have HW6 := hid hw6
            have HN6 : Hid (NodesR w6 w4.heap.size (.slice (some ⟨gn, 0, none⟩) L.length cv) L) := HNR.out.kept hz4 HWR.out hk6
            clear hw6 hk6 h6 HSA
            go_wp2_with fail
            go_roundw
            case rel => exact ⟨k + 1, P', by go_num, by omega, HP1, HW6, HN6, HF1⟩
            case measure => simp [intOf]; omega
        · obtain rfl : k = L.length := by omega
          have HF1 : Hid (firstW (insOf r (siteD r)) cl [] L 0 = 0) := by show _ = _; rw [HFW.out, List.drop_length]; rfl
          have HA1 : Hid (checkS r l.data.toList t.data.toList = (0, 0)) := by show _ = _; rw [HA.out, HF1.out, if_pos rfl]
          clear HFW HF1 HA
          go_wp2_with fail
          refine bodyPost_ret (v := .tuple #[.int .i64 0, .int .i64 0]) (by simp [results, Tryz.results93, go_sem]) rfl ?_
          exact ⟨by rw [HA1.out]; rfl, HB0.out.trans (HWR.out.below.mono hwz)⟩
    · have HA1 : Hid (checkS r l.data.toList t.data.toList = (line, 14)) := by show _ = _; rw [HA.out, if_pos he]
      have HNE := hid he
      clear HA HTO he
      go_wp2_with fail
      refine HRD.out.mono ?_
      rintro e5 w5 ⟨h5, _, hb5⟩
      obtain rfl := h5 HNE.out
      have HB5 : Hid (Below w.heap.size w w5) := HB4.out.trans (hb5.mono HB4.out.size)
      clear h5 hb5 HRD
      dsimp only
      go_wp2_with fail
      refine bodyPost_ret (v := .tuple #[.int .i64 (line : Int), .int .i64 14]) (by simp [results, Tryz.results93, go_sem]) rfl ?_
      exact ⟨by rw [HA1.out], HB5.out⟩
  · have HA : Hid (checkS r l.data.toList t.data.toList = (0, (claimS r l.data.toList).2)) := by show _ = _; unfold checkS; rw [if_pos hc]
    have b1 : ((claimS r l.data.toList).2 != 0) = true := by simpa using hc
    clear HW4 hc
    go_wp2_with fail
    refine bodyPost_ret (v := .tuple #[.int .i64 0, .int .i64 (claimS r l.data.toList).2]) (by simp [results, Tryz.results93, go_sem]) rfl ?_
    exact ⟨by rw [HA.out]; rfl, HB4.out⟩
end Go.Proofs.YtebinaopncclgabGreatDoor
namespace Go.Proofs.YtebinaopncclgabGreatDoor
open Go.ChangeShapes Go.WideShapes Go.ChangeAt Go.RowKit Go.Deep

theorem own : ownKnob Tryz.prog.godebug = none := by kernel_rfl
theorem laidOut : laidOutB Tryz.prog = true := by kernel_rfl

/- a struct whose fields are ints, one cell each -/
theorem ints_of {H : Type} {enc : TypeId × Value → H} {P : Program} {w : World} {base : Nat} {spare : Nat → Bool} {held : Bool} {e : TypeId} {fs : Array Field} {fuel k : Nat} {cs : List Value} {x : DataW H × List MemPlace}
    (he : P.underlying e = some (.struct fs)) (hk : k ≤ fs.size) (hf : ∀ i, i < k → ∃ f, fs[i]? = some f ∧ f.offset = i ∧ P.cellsOf f.type = 1 ∧ P.underlying f.type = some (.int .i64))
    (h : DataW.trod enc P w base spare held fuel e cs = some x) : ∀ i, i < k → ∃ z, cs[i]? = some (.int .i64 z) ∧ (Lit.int .i64 z).wf = true := by
  intro i hi
  obtain ⟨xs, n, _, _, _, hxl, hfl⟩ := DataW.trod_struct he h
  obtain ⟨f, hfi, ho, hc, hu⟩ := hf i hi
  have g := hfl i f hfi
  rw [ho, hc] at g
  have hxi : i < xs.length := by omega
  rw [List.getElem?_eq_getElem hxi] at g
  obtain ⟨z, hz, _, hw⟩ := DataW.trod_int hu g
  refine ⟨z, ?_, hw⟩
  have := congrArg (fun l => l[0]?) hz
  simpa using this
theorem wf_range {z : Int} (h : (Lit.int .i64 z).wf = true) : -9223372036854775808 ≤ z ∧ z ≤ 9223372036854775807 := by
  simp [Lit.wf, IntKind.min, IntKind.max, IntKind.signed, IntKind.bits] at h
  exact ⟨by omega, by omega⟩
/- a list of such structs that came in -/
theorem came_of {H : Type} {enc : TypeId × Value → H} {P : Program} {w : World} {held : Bool} {t e : TypeId} {fs : Array Field} {fuel k : Nat} {c : Value} {x : DataW H × List MemPlace}
    (ht : P.underlying t = some (.slice e)) (he : P.underlying e = some (.struct fs)) (hk : k ≤ fs.size) (hce : P.cellsOf e = k) (hf : ∀ i, i < k → ∃ f, fs[i]? = some f ∧ f.offset = i ∧ P.cellsOf f.type = 1 ∧ P.underlying f.type = some (.int .i64)) (hk0 : 0 < k)
    (h : DataW.trod enc P w 0 (fun _ => true) held fuel t [c] = some x) :
    ∃ ao len cap S, c = .slice ao len cap ∧ len ≤ 9223372036854775807 ∧ Came w ao len k S := by
  rcases open_slice ht h with ⟨hcs, _⟩ | ⟨a, len, cap, m, n, D, Pl, hcs, _, hl, hm, hmm, _, hx⟩
  · cases hcs
    exact ⟨none, 0, 0, fun _ _ => 0, rfl, by omega, fun h => absurd h (by omega)⟩
  · cases hcs
    simp only [if_true] at hmm
    subst hmm
    have each : ∀ i, i < len → ∃ s : Nat → Int, ∀ j, j < k → w.cell? (a.add (i * k + j)) = some (.int .i64 (s j)) ∧ (Lit.int .i64 (s j)).wf = true := by
      intro i hi
      obtain ⟨cs', h1, h2⟩ := hx i (by omega)
      rw [hce] at h1
      obtain ⟨_, hlen, hcell⟩ := World.cells?_some h1
      have hz := ints_of he hk hf h2
      obtain ⟨s, hs⟩ := choose_lt (α := Int) hz
      refine ⟨s, fun j hj => ⟨?_, (hs j hj).2⟩⟩
      have e1 := hcell j (by omega)
      rw [add_add] at e1
      rw [e1]; exact (hs j hj).1
    obtain ⟨S, hS⟩ := choose_lt (α := Nat → Int) each
    refine ⟨some a, len, _, S, rfl, by unfold maxLen at hm; omega, fun hn => ?_⟩
    obtain ⟨b, off, spot⟩ := a
    have hc0 := (hS 0 hn 0 hk0).1
    have hspot : spot = none := by simpa [Addr.add] using World.cell?_spot hc0
    subst hspot
    refine ⟨b, off, rfl, ?_, fun i j hi hj => ?_⟩
    · rw [Addr.add_lit] at hc0; exact World.block_lt_of_cell? w _ hc0
    · have h1 := hS i hi j hj
      refine ⟨?_, wf_range h1.2⟩
      have h2 := h1.1
      rw [Addr.add_lit, ← Nat.add_assoc] at h2
      exact h2
theorem array7 {α : Type} {cs : Array α} (h : cs.size = 7) : ∃ c0 c1 c2 c3 c4 c5 c6, cs = #[c0, c1, c2, c3, c4, c5, c6] := by
  obtain ⟨l⟩ := cs
  match l, h with
  | [c0, c1, c2, c3, c4, c5, c6], _ => exact ⟨c0, c1, c2, c3, c4, c5, c6, rfl⟩

theorem stopFields {fs : Array Field} (h : Tryz.prog.underlying 62 = some (.struct fs)) : fs.size = 5 ∧ ∀ i, i < 5 → ∃ f, fs[i]? = some f ∧ f.offset = i ∧ Tryz.prog.cellsOf f.type = 1 ∧ Tryz.prog.underlying f.type = some (.int .i64) := by
  have hc : Tryz.prog.cellsOf 3 = 1 := by kernel_rfl
  rw [Tryz.underlying62] at h
  cases h
  refine ⟨rfl, fun i hi => ?_⟩
  match i, hi with
  | 0, _ => exact ⟨_, rfl, rfl, hc, Tryz.underlying3⟩
  | 1, _ => exact ⟨_, rfl, rfl, hc, Tryz.underlying3⟩
  | 2, _ => exact ⟨_, rfl, rfl, hc, Tryz.underlying3⟩
  | 3, _ => exact ⟨_, rfl, rfl, hc, Tryz.underlying3⟩
  | 4, _ => exact ⟨_, rfl, rfl, hc, Tryz.underlying3⟩
theorem roadFields {fs : Array Field} (h : Tryz.prog.underlying 64 = some (.struct fs)) : fs.size = 3 ∧ ∀ i, i < 3 → ∃ f, fs[i]? = some f ∧ f.offset = i ∧ Tryz.prog.cellsOf f.type = 1 ∧ Tryz.prog.underlying f.type = some (.int .i64) := by
  have hc : Tryz.prog.cellsOf 3 = 1 := by kernel_rfl
  rw [Tryz.underlying64] at h
  cases h
  refine ⟨rfl, fun i hi => ?_⟩
  match i, hi with
  | 0, _ => exact ⟨_, rfl, rfl, hc, Tryz.underlying3⟩
  | 1, _ => exact ⟨_, rfl, rfl, hc, Tryz.underlying3⟩
  | 2, _ => exact ⟨_, rfl, rfl, hc, Tryz.underlying3⟩
/- an instance that came in -/
set_option maxRecDepth 100000 in
theorem open_inst {H : Type} {enc : TypeId × Value → H} {W : World} {base : Nat} {v : Value} {d : DataW H} {p : List MemPlace} (hv : Value.okWide Tryz.prog W .any base 28 v) (h : DataW.Trod enc Tryz.prog W 0 (fun _ => true) true 28 v d p) :
    ∃ (X : Nat → Int) (S T : Nat → Nat → Int) (aS aR : Option Addr) (n m cn cm : Nat), v = .agg #[.int .i64 (X 0), .int .i64 (X 1), .int .i64 (X 2), .int .i64 (X 3), .int .i64 (X 4), .slice aS n cn, .slice aR m cm] ∧
      (∀ i, i < 5 → -9223372036854775808 ≤ X i ∧ X i ≤ 9223372036854775807) ∧ n ≤ 9223372036854775807 ∧ m ≤ 9223372036854775807 ∧ Came W aS n 5 S ∧ Came W aR m 3 T := by
  obtain ⟨cs, rfl, hsz⟩ := okWide_struct Tryz.underlying28 hv
  have hC : Tryz.prog.cellsOf 28 = 7 := by kernel_rfl
  have hc1 : Tryz.prog.cellsOf 3 = 1 := by kernel_rfl
  have hc2 : Tryz.prog.cellsOf 25 = 1 := by kernel_rfl
  have hc3 : Tryz.prog.cellsOf 26 = 1 := by kernel_rfl
  obtain ⟨c0, c1, c2, c3, c4, c5, c6, rfl⟩ := array7 (hsz.trans hC)
  obtain ⟨fuel, hf⟩ := h
  obtain ⟨xs, n, _, _, _, hxl, hfl⟩ := DataW.trod_struct Tryz.underlying28 hf
  have hx : ∀ i, i < 7 → ∃ y, xs[i]? = some y := fun i hi => ⟨_, List.getElem?_eq_getElem (by rw [hxl]; exact hi)⟩
  obtain ⟨y0, e0⟩ := hx 0 (by omega)
  obtain ⟨y1, e1⟩ := hx 1 (by omega)
  obtain ⟨y2, e2⟩ := hx 2 (by omega)
  obtain ⟨y3, e3⟩ := hx 3 (by omega)
  obtain ⟨y4, e4⟩ := hx 4 (by omega)
  obtain ⟨y5, e5⟩ := hx 5 (by omega)
  obtain ⟨y6, e6⟩ := hx 6 (by omega)
  have g0 : DataW.trod enc Tryz.prog W 0 (fun _ => true) true n 3 [c0] = some y0 := by simpa [hc1, Value.cells] using (hfl 0 _ rfl).trans e0
  have g1 : DataW.trod enc Tryz.prog W 0 (fun _ => true) true n 3 [c1] = some y1 := by simpa [hc1, Value.cells] using (hfl 1 _ rfl).trans e1
  have g2 : DataW.trod enc Tryz.prog W 0 (fun _ => true) true n 3 [c2] = some y2 := by simpa [hc1, Value.cells] using (hfl 2 _ rfl).trans e2
  have g3 : DataW.trod enc Tryz.prog W 0 (fun _ => true) true n 3 [c3] = some y3 := by simpa [hc1, Value.cells] using (hfl 3 _ rfl).trans e3
  have g4 : DataW.trod enc Tryz.prog W 0 (fun _ => true) true n 3 [c4] = some y4 := by simpa [hc1, Value.cells] using (hfl 4 _ rfl).trans e4
  have g5 : DataW.trod enc Tryz.prog W 0 (fun _ => true) true n 25 [c5] = some y5 := by simpa [hc2, Value.cells] using (hfl 5 _ rfl).trans e5
  have g6 : DataW.trod enc Tryz.prog W 0 (fun _ => true) true n 26 [c6] = some y6 := by simpa [hc3, Value.cells] using (hfl 6 _ rfl).trans e6
  obtain ⟨z0, q0, _, w0⟩ := DataW.trod_int Tryz.underlying3 g0
  obtain ⟨z1, q1, _, w1⟩ := DataW.trod_int Tryz.underlying3 g1
  obtain ⟨z2, q2, _, w2⟩ := DataW.trod_int Tryz.underlying3 g2
  obtain ⟨z3, q3, _, w3⟩ := DataW.trod_int Tryz.underlying3 g3
  obtain ⟨z4, q4, _, w4⟩ := DataW.trod_int Tryz.underlying3 g4
  cases q0; cases q1; cases q2; cases q3; cases q4
  obtain ⟨aS, len, cap, S, rfl, hl, hS⟩ := came_of (c := c5) Tryz.underlying25 Tryz.underlying62 (k := 5) (Nat.le_of_eq (stopFields Tryz.underlying62).1.symm) (by kernel_rfl) (stopFields Tryz.underlying62).2 (by omega) g5
  obtain ⟨aR, len', cap', T, rfl, hl', hT⟩ := came_of (c := c6) Tryz.underlying26 Tryz.underlying64 (k := 3) (Nat.le_of_eq (roadFields Tryz.underlying64).1.symm) (by kernel_rfl) (roadFields Tryz.underlying64).2 (by omega) g6
  refine ⟨fun i => [z0, z1, z2, z3, z4].getD i 0, S, T, aS, aR, len, len', cap, cap', rfl, fun i hi => ?_, hl, hl', hS, hT⟩
  match i, hi with
  | 0, _ => exact wf_range w0
  | 1, _ => exact wf_range w1
  | 2, _ => exact wf_range w2
  | 3, _ => exact wf_range w3
  | 4, _ => exact wf_range w4
end Go.Proofs.YtebinaopncclgabGreatDoor
namespace Go.Proofs.YtebinaopncclgabGreatDoor
open Go.RowKit Go.IntWalk

theorem stop_want {r : Rd} (hok : RdOk r) (k : Nat) : 0 ≤ stopV r k 1 := by
  unfold stopV
  by_cases h : k - 1 < r.stops.length
  · obtain ⟨b0, b1, b2, b3, b4, hab, hsk⟩ := hok.stops _ (List.getElem_mem h)
    have hg' : r.stops.getD (k - 1) [] = [b0, b1, b2, b3, b4] := by rw [List.getD_eq_getElem?_getD, List.getElem?_eq_getElem h, Option.getD_some, hab]
    simp only [stopOk, Bool.and_eq_true, fit_iff, decide_eq_true_eq] at hsk
    rw [hg']
    show 0 ≤ b1
    omega
  · have hg' : r.stops.getD (k - 1) [] = [] := by rw [List.getD_eq_getElem?_getD, List.getElem?_eq_none (by omega)]; rfl
    rw [hg']
    exact Int.le_refl _
theorem drv_judge {r : Rd} {D : Nat → Nat → Int} {l : List UInt8} (hok : RdOk r) :
    (∀ C S, drvS r D l = some (C, S) → judgeS r D l = (C, some S, 0)) ∧ (drvS r D l = none → ∃ e, e ≠ 0 ∧ judgeS r D l = (0, none, e)) := by
  have hld : 0 ≤ r.load := by have := headOk_iff.1 hok.head; omega
  unfold drvS judgeS
  by_cases hf : textFaultS r.stops.length l = 0
  · have hb : ∀ c ∈ l, c = 47 ∨ 49 ≤ c.toNat := fun c hc => by
      rcases plan_bytes (fine_size hf).2.1 c hc with h | h
      · exact .inl h
      · exact .inr h.1
    rw [if_neg (show ¬ textFaultS r.stops.length l ≠ 0 by omega)]
    by_cases hv : r.vans < ((routesS l).length : Int)
    · rw [if_neg (fun h => h.2 hv), if_pos hv]
      exact ⟨fun C S e => (by cases e), fun _ => ⟨8, by omega, rfl⟩⟩
    · rw [if_pos ⟨hf, hv⟩, if_neg hv]
      obtain ⟨h1, h2⟩ := driven_good (r := r) (D := D) (Z := List.replicate r.stops.length 0) (stop_want hok) hld hb
      refine ⟨fun C S e => ?_, fun e => ?_⟩
      · obtain ⟨k1, k2, k3, k4⟩ := h1 C S e
        rw [if_neg (by rw [k1]; simp), if_neg (by rw [k2]; simp), k3, k4]
      · have h3 := h2 e
        by_cases g1 : (routesS l).all (loadOk r) = false
        · rw [if_pos g1]; exact ⟨9, by omega, rfl⟩
        · rw [if_neg g1]
          by_cases g2 : (routesS l).all (wayOk D) = false
          · rw [if_pos g2]; exact ⟨10, by omega, rfl⟩
          · rw [if_neg g2]
            cases ht : timesS r D (routesS l) (List.replicate r.stops.length 0) with
            | none => exact ⟨11, by omega, rfl⟩
            | some S => exact absurd ⟨by simpa using g1, by simpa using g2, by rw [ht]; simp⟩ h3
  · rw [if_neg (fun h => hf h.1), if_pos hf]
    exact ⟨fun C S e => (by cases e), fun _ => ⟨_, hf, rfl⟩⟩
theorem Grid.sq {w : World} {B : Nat} {v : Value} {n : Nat} {D : Nat → Nat → Int} (h : Grid w B v n D) (hn : n ≤ 100) : SqR w v n D := by
  obtain ⟨g, rfl, hg, hr⟩ := h
  refine ⟨_, _, rfl, hn, fun i hi => ?_⟩
  obtain ⟨gi, h1, h2, h3⟩ := hr i hi
  exact ⟨g, gi, n, rfl, hg.2, h1, h2.2, h3⟩

set_option maxRecDepth 100000 in
set_option maxHeartbeats 2000000 in
theorem kways_any (B : Nat) (r : Rd) (vs vr : Value) (w : World) (hok : RdOk r) (hs : w.ownsRow B 62 5 vs r.stops.length (ints r.stops.flatten)) (hr : w.ownsRow B 64 3 vr r.roads.length (ints r.roads.flatten)) :
    Calls Tryz.prog 12 #[inst r vs vr] w fun e w' => ∃ v, e = .returned (.tuple #[v, .bool true]) ∧ Grid w' w.heap.size v (r.stops.length + 1) (siteD r) ∧ Below w.heap.size w w' := by
  have hns := hok.nstops
  obtain ⟨aos, caps, rfl, _, _⟩ := own_val hs
  obtain ⟨aor, capr, rfl, _, _⟩ := own_val hr
  obtain ⟨W, hW⟩ : ∃ W, W = w.alloc (.cells (yCells r (.slice aos r.stops.length caps) (.slice aor r.roads.length capr)) 28) := ⟨_, rfl⟩
  obtain ⟨hbW, hbox, k0, k1, k2, k3, k4, k5, k6⟩ := inst_box hW
  have HT := hid (text0_any B B r (.slice aos r.stops.length caps) (.slice aor r.roads.length capr) W hok.nice (own_below hs hbW) (own_below hr hbW))
  have HW : Hid (∀ W', Calls Tryz.prog 22 #[.string ⟨(textL r).toArray⟩] W' fun e w' => ∃ v, e = .returned (.tuple #[v, .int .i64 0]) ∧ Grid w' W'.heap.size v (r.stops.length + 1) (siteD r) ∧ Below W'.heap.size W' w') := fun W' => ways_text hok W'
  have HBW := hid hbW
  have HWQ := hid hW
  clear hs hr hok hW hbW
  unfold yCells inst at *
  go_enter Tryz.func12, Tryz.ntmps12
  go_wp2_with fail
  rw [← HWQ.out]
  refine HT.out.mono ?_
  rintro e1 w1 ⟨rfl, hb1⟩
  have HB1 : Hid (Below W.heap.size W w1) := hb1
  clear hb1 HT
  go_wp2_with fail
  refine (HW.out _).mono ?_
  rintro e2 w2 ⟨v2, rfl, hg2, hb2⟩
  have HG2 := hid hg2
  have HB2 : Hid (Below W.heap.size W w2) := HB1.out.trans (hb2.mono HB1.out.size)
  have y5 : w2.cell? _ = _ := (HB2.out.cell (by exact hbox)).trans k5
  have hbx : w.heap.size < w2.heap.size := Nat.lt_of_lt_of_le hbox HB2.out.size
  have HSQ := hid (square_any (r.stops.length + 1) _ v2 (siteD r) w2 (by omega) hg2)
  obtain ⟨g, rfl, _⟩ := hg2
  clear hb2
  go_wp2_with (first
    | (go_at_call 23; refine HSQ.out.mono ?_; rintro e3 w3 ⟨he3, hw3⟩; subst he3; rw [hw3]; clear hw3 w3)
    | go_in)
  go_ret2
  exact ⟨_, rfl, HG2.out.base (Nat.le_trans HBW.out.size HB1.out.size), HBW.out.trans (HB2.out.mono HBW.out.size)⟩

end Go.Proofs.YtebinaopncclgabGreatDoor
namespace Go.Proofs.YtebinaopncclgabGreatDoor
open Go.RowKit

theorem judge_some {r : Rd} {D : Nat → Nat → Int} {l : List UInt8} (h : (judgeS r D l).2.2 = 0) : ∃ S, judgeS r D l = ((judgeS r D l).1, some S, 0) := by
  unfold judgeS at h ⊢
  split at h
  · rename_i h1; exact absurd h h1
  · rename_i h1
    rw [if_neg h1]
    split at h
    · cases h
    · rename_i h2
      rw [if_neg h2]
      split at h
      · cases h
      · rename_i h3
        rw [if_neg h3]
        split at h
        · cases h
        · rename_i h4
          rw [if_neg h4]
          cases ht : timesS r D (routesS l) (List.replicate r.stops.length 0) with
          | none => rw [ht] at h; cases h
          | some S => exact ⟨S, rfl⟩
theorem ins_fine {r : Rd} (hok : RdOk r) : InsOk (insOf r (siteD r)) := insOk_of hok fun a b ha hb => (site_range hok a b ha hb).1
theorem check_parts {r : Rd} {l t : List UInt8} (h : checkS r l t = (0, 0)) : (claimS r l).2 = 0 ∧ (readT t).2.2 = 0 ∧ ∃ P', walkW (insOf r (siteD r)) (claimS r l).1 [] (readT t).1 = some P' := by
  unfold checkS at h
  split at h
  · rename_i h1; injection h with _ h2; exact absurd h2 h1
  · rename_i h1
    split at h
    · injection h with _ h2; exact absurd h2 (by omega)
    · rename_i h2
      split at h
      · rename_i h3; exact ⟨by omega, by omega, (firstW_walk _ _ _ _ _).1 h3⟩
      · injection h with _ h3; exact absurd h3 (by omega)
theorem check_least {r : Rd} (hok : RdOk r) {l t : List UInt8} (h : checkS r l t = (0, 0)) {R : List (List Nat)} (hp : PlanQ (insOf r (siteD r)) R) : ∃ c, (claimS r l).1 = some c ∧ c ≤ costQ (insOf r (siteD r)) R := by
  obtain ⟨_, h2, P', h3⟩ := check_parts h
  exact check_sound (ins_fine hok) hp h3 (readT_ok h2).1
theorem check_none {r : Rd} (hok : RdOk r) {t : List UInt8} (h : checkS r noneB t = (0, 0)) {R : List (List Nat)} (hp : PlanQ (insOf r (siteD r)) R) : False := by
  obtain ⟨c, h1, _⟩ := check_least hok h hp
  unfold claimS at h1
  rw [if_pos rfl] at h1
  cases h1
theorem check_claim {r : Rd} (hok : RdOk r) {l t : List UInt8} (hl : l ≠ noneB) (h : checkS r l t = (0, 0)) : ∃ c S, judgeS r (siteD r) l = (c, some S, 0) ∧ ∀ R, PlanQ (insOf r (siteD r)) R → c ≤ costQ (insOf r (siteD r)) R := by
  obtain ⟨h1, _, _⟩ := check_parts h
  have hk := fun R hp => check_least hok h (R := R) hp
  unfold claimS at h1 hk
  rw [if_neg hl] at h1 hk
  by_cases hj : (judgeS r (siteD r) l).2.2 ≠ 0
  · rw [if_pos hj] at h1; exact absurd h1 hj
  · rw [if_neg hj] at hk
    obtain ⟨S, hS⟩ := judge_some (r := r) (D := siteD r) (l := l) (by omega)
    refine ⟨_, S, hS, fun R hp => ?_⟩
    obtain ⟨c, e, hc⟩ := hk R hp
    cases e
    exact hc
end Go.Proofs.YtebinaopncclgabGreatDoor
namespace Go.Proofs.YtebinaopncclgabGreatDoor
open Go.RowKit Go.IntWalk

set_option maxRecDepth 100000 in
set_option maxHeartbeats 2000000 in
theorem dcheck_ok (s l t : ByteArray) (r : Rd) (w : World) (hs : s.size ≤ maxLen) (hl : l.size ≤ maxLen) (ht : ShortT t) (hp : parseS s.data.toList = (r, 0, 0)) (hok : RdOk r) :
    Calls Tryz.prog 43 #[.string s, .string l, .string t] w fun e w' => e = .returned (.tuple #[.int .i64 (checkS r l.data.toList t.data.toList).1, .int .i64 (checkS r l.data.toList t.data.toList).2]) ∧ Below w.heap.size w w' := by
  have HC := hid (gcheck_ok s l t r w hs hl ht hp hok)
  generalize checkS r l.data.toList t.data.toList = x at *
  clear hp hok
  go_enter Tryz.func43, Tryz.ntmps43
  go_wp2_with fail
  refine HC.out.mono ?_
  rintro e1 w1 ⟨rfl, hb1⟩
  have HB := hid hb1
  clear hb1 HC
  go_wp2
  go_ret2
  exact ⟨rfl, HB.out⟩

open Classical in
set_option maxRecDepth 100000 in
set_option maxHeartbeats 2000000 in
theorem shows_ok (s l t : ByteArray) (r : Rd) (w : World) (hs : s.size ≤ maxLen) (hl : l.size ≤ maxLen) (ht : ShortT t) (hp : parseS s.data.toList = (r, 0, 0)) (hok : RdOk r) :
    Calls Tryz.prog 25 #[.string s, .string l, .string t] w fun e w' => e = .returned (.bool (decide (checkS r l.data.toList t.data.toList = (0, 0)))) ∧ Below w.heap.size w w' := by
  have HC := hid (dcheck_ok s l t r w hs hl ht hp hok)
  generalize checkS r l.data.toList t.data.toList = x at *
  obtain ⟨x1, x2⟩ := x
  clear hp hok
  by_cases h2 : x2 = 0
  · subst h2
    by_cases h1 : x1 = 0
    · subst h1
      have HD : Hid (decide (((0 : Nat), (0 : Int)) = (0, 0)) = true) := by show _ = _; simp
      go_enter Tryz.func25, Tryz.ntmps25
      go_wp2_with fail
      refine HC.out.mono ?_
      rintro e1 w1 ⟨rfl, hb1⟩
      have HB := hid hb1
      clear hb1 HC
      go_wp2
      go_ret
      exact ⟨ret_bool (by rw [HD.out]), HB.out⟩
    · have b1 : ((x1 : Int) == 0) = false := by simpa using h1
      have HD : Hid (decide ((x1, (0 : Int)) = (0, 0)) = false) := by show _ = _; simpa using h1
      go_enter Tryz.func25, Tryz.ntmps25
      go_wp2_with fail
      refine HC.out.mono ?_
      rintro e1 w1 ⟨rfl, hb1⟩
      have HB := hid hb1
      clear hb1 HC
      go_wp2
      go_ret
      exact ⟨ret_bool (by rw [HD.out]), HB.out⟩
  · have b1 : (x2 == 0) = false := by simpa using h2
    have HD : Hid (decide ((x1, x2) = ((0 : Nat), (0 : Int))) = false) := by show _ = _; simp [h2]
    go_enter Tryz.func25, Tryz.ntmps25
    go_wp2_with fail
    refine HC.out.mono ?_
    rintro e1 w1 ⟨rfl, hb1⟩
    have HB := hid hb1
    clear hb1 HC
    go_wp2
    go_ret
    exact ⟨ret_bool (by rw [HD.out]), HB.out⟩
end Go.Proofs.YtebinaopncclgabGreatDoor
namespace Go.Proofs.YtebinaopncclgabGreatDoor
open Go.RowKit Go.IntWalk

theorem drv_pl {r : Rd} (hok : RdOk r) {l : List UInt8} {C : Int} {S : List Int} (h : drvS r (siteD r) l = some (C, S)) : PlanQ (insOf r (siteD r)) (routesN l) ∧ C = costQ (insOf r (siteD r)) (routesN l) := by
  have hj := (drv_judge hok).1 C S h
  obtain ⟨_, hq⟩ := (judge_iff (D := siteD r) hok).1 ⟨C, S, hj⟩
  exact ⟨hq, judge_cost hj⟩
theorem drv_of {r : Rd} (hok : RdOk r) {l : List UInt8} {c : Int} {S : List Int} (h : judgeS r (siteD r) l = (c, some S, 0)) : drvS r (siteD r) l = some (c, S) := by
  obtain ⟨h1, h2⟩ := drv_judge (D := siteD r) (l := l) hok
  cases hd : drvS r (siteD r) l with
  | none => obtain ⟨e, he, hj⟩ := h2 hd; rw [hj] at h; cases h
  | some cs => obtain ⟨C, S'⟩ := cs; have hj := h1 C S' hd; rw [hj] at h; cases h; rfl
theorem sound_none {r : Rd} (hok : RdOk r) {l t : List UInt8} (h : checkS r noneB t = (0, 0)) : drvS r (siteD r) l = none := by
  cases hd : drvS r (siteD r) l with
  | none => rfl
  | some cs => obtain ⟨C, S⟩ := cs; exact (check_none hok h (drv_pl hok hd).1).elim
theorem sound_claim {r : Rd} (hok : RdOk r) {l t : List UInt8} (hl : l ≠ noneB) (h : checkS r l t = (0, 0)) : ∃ c S, drvS r (siteD r) l = some (c, S) ∧ ∀ l2 C S2, drvS r (siteD r) l2 = some (C, S2) → c ≤ C := by
  obtain ⟨c, S, hj, hk⟩ := check_claim hok hl h
  refine ⟨c, S, drv_of hok hj, fun l2 C S2 hd => ?_⟩
  obtain ⟨h1, h2⟩ := drv_pl hok hd
  rw [h2]; exact hk _ h1
end Go.Proofs.YtebinaopncclgabGreatDoor
namespace Go.Proofs.YtebinaopncclgabGreatDoor
open Go.RowKit Go.IntWalk

def ansA (v : Int) (l : ByteArray) (c : Int) (t : ByteArray) : Value := .agg #[.int .i64 v, .string l, .int .i64 c, .string t]
theorem two_box (w : World) (c1 c2 : Array Value) (t1 t2 : TypeId) : Below w.heap.size w ((w.alloc (.cells c1 t1)).alloc (.cells c2 t2)) ∧ ((w.alloc (.cells c1 t1)).alloc (.cells c2 t2)).heap[w.heap.size]? = some (.cells c1 t1 (0, 0)) ∧ ((w.alloc (.cells c1 t1)).alloc (.cells c2 t2)).heap[w.heap.size + 1]? = some (.cells c2 t2 (0, 0)) := by
  refine ⟨below2 w _ _, ?_, ?_⟩
  · rw [Below.heap_alloc _ _ _ (by simp)]; exact heap_alloc_new w _
  · have h := heap_alloc_new (w.alloc (.cells c1 t1)) (.cells c2 t2)
    rw [show (w.alloc (.cells c1 t1)).heap.size = w.heap.size + 1 by simp] at h
    exact h

set_option maxRecDepth 100000 in
set_option maxHeartbeats 8000000 in
theorem told_any (R : Rd) (B : Nat) (v c : Int) (l t : ByteArray) (vs vr vw : Value) (w : World) (hok : RdOk R) (hs : w.ownsRow B 62 5 vs R.stops.length (ints R.stops.flatten)) (hr : w.ownsRow B 64 3 vr R.roads.length (ints R.roads.flatten)) (hq : SqR w vw (R.stops.length + 1) (siteD R))
    (hl : l.size ≤ 2000000) (ht : ShortT t) (hck : checkS R l.data.toList t.data.toList = (0, 0)) (hcase : (v = 2 ∧ l.data.toList = noneB ∧ c = 0) ∨ (v = 1 ∧ l.data.toList ≠ noneB ∧ ∃ S, drvS R (siteD R) l.data.toList = some (c, S))) :
    Calls Tryz.prog 14 #[inst R vs vr, vw, ansA v l c t] w fun e w' => e = .returned (.bool true) ∧ Below w.heap.size w w' := by
  have hp : parseS (⟨(textL R).toArray⟩ : ByteArray).data.toList = (R, 0, 0) := by show parseS (textL R).toArray.toList = _; simpa using parse_text hok
  have hsz : (⟨(textL R).toArray⟩ : ByteArray).size ≤ maxLen := by have := textL_length hok; show (textL R).toArray.size ≤ _; unfold maxLen; simp; omega
  have HSH : Hid (∀ W, Calls Tryz.prog 25 #[.string ⟨(textL R).toArray⟩, .string l, .string t] W fun e w' => e = .returned (.bool true) ∧ Below W.heap.size W w') := fun W => by
    refine (shows_ok ⟨(textL R).toArray⟩ l t R W hsz (by unfold maxLen; omega) ht hp hok).mono ?_
    rintro e w' ⟨h1, h2⟩
    exact ⟨by rw [h1]; simp [hck], h2⟩
  have HTX : Hid (∀ W, Below w.heap.size w W → Calls Tryz.prog 11 #[inst R vs vr, .int .i64 0] W fun e w' => e = .returned (.string ⟨(textL R).toArray⟩) ∧ Below W.heap.size W w') := fun W hW => text0_any B B R vs vr W hok.nice (own_below hs hW) (own_below hr hW)
  have HDR : Hid (∀ W, Below w.heap.size w W → Calls Tryz.prog 15 #[inst R vs vr, vw, .string l] W (DrvLeft W R.stops.length (drvS R (siteD R) l.data.toList))) := fun W hW => by
    obtain ⟨ar, cr, er, _, _⟩ := own_val hr
    exact driven_any R (siteD R) l vs vr vw W hok ((StR.own hs (fun s hs => (hok.nice.stops s hs).1)).below hW) (hq.below hW) (site_range hok) (by omega) ⟨_, _, _, er⟩
  obtain ⟨aos, caps, rfl, _, _⟩ := own_val hs
  obtain ⟨aor, capr, rfl, _, _⟩ := own_val hr
  obtain ⟨aw, cw, rfl, _, _⟩ := hq
  unfold inst ansA at *
  obtain ⟨W, hW⟩ : ∃ W, W = (w.alloc (.cells #[.int .i64 R.vans, .int .i64 R.load, .int .i64 R.close, .int .i64 R.nodes, .int .i64 R.home, .slice aos R.stops.length caps, .slice aor R.roads.length capr] 28)).alloc (.cells #[.int .i64 v, .string l, .int .i64 c, .string t] 35) := ⟨_, rfl⟩
  obtain ⟨hbW, hx1, hx2⟩ := two_box w #[.int .i64 R.vans, .int .i64 R.load, .int .i64 R.close, .int .i64 R.nodes, .int .i64 R.home, .slice aos R.stops.length caps, .slice aor R.roads.length capr] #[.int .i64 v, .string l, .int .i64 c, .string t] 28 35
  rw [← hW] at hbW hx1 hx2
  have HBW := hid hbW
  have HX2 := hid hx2
  have HX1 := hid hx1
  have l2 : w.heap.size + 1 < W.heap.size := (Array.getElem?_eq_some_iff.1 hx2).1
  have a0 : W.cell? ⟨w.heap.size + 1, 0, none⟩ = _ := cell_of_row W _ 0 _ _ _ hx2
  have a1 : W.cell? ⟨w.heap.size + 1, 1, none⟩ = _ := cell_of_row W _ 1 _ _ _ hx2
  have a2 : W.cell? ⟨w.heap.size + 1, 2, none⟩ = _ := cell_of_row W _ 2 _ _ _ hx2
  have a3 : W.cell? ⟨w.heap.size + 1, 3, none⟩ = _ := cell_of_row W _ 3 _ _ _ hx2
  obtain ⟨y0, y1, y2, y3, y4, y5, y6, _⟩ := seven hx1
  have l1 : w.heap.size < W.heap.size := by omega
  have HWQ := hid hW
  clear hs hr hok hW hbW hx1 hx2 hp hsz ht hck
  go_enter Tryz.func14, Tryz.ntmps14
  have HTW : Hid (∀ W', Below W.heap.size W W' → Calls Tryz.prog 11 #[.agg #[.int .i64 R.vans, .int .i64 R.load, .int .i64 R.close, .int .i64 R.nodes, .int .i64 R.home, .slice aos R.stops.length caps, .slice aor R.roads.length capr], .int .i64 0] W' fun e w' => e = .returned (.string ⟨(textL R).toArray⟩) ∧ (w'.cell? ⟨w.heap.size, 0, none⟩ = some (.int .i64 R.vans) ∧ w'.cell? ⟨w.heap.size, 1, none⟩ = some (.int .i64 R.load) ∧ w'.cell? ⟨w.heap.size, 2, none⟩ = some (.int .i64 R.close) ∧ w'.cell? ⟨w.heap.size, 3, none⟩ = some (.int .i64 R.nodes) ∧ w'.cell? ⟨w.heap.size, 4, none⟩ = some (.int .i64 R.home) ∧ w'.cell? ⟨w.heap.size, 5, none⟩ = some (.slice aos R.stops.length caps) ∧ w'.cell? ⟨w.heap.size, 6, none⟩ = some (.slice aor R.roads.length capr) ∧ w'.cell? ⟨w.heap.size + 1, 1, none⟩ = some (.string l) ∧ w'.cell? ⟨w.heap.size + 1, 3, none⟩ = some (.string t)) ∧ Hid (Below W.heap.size W w')) := fun W' hW' => by
    refine (HTX.out W' (HBW.out.trans (hW'.mono HBW.out.size))).mono ?_
    rintro e w' ⟨h1, h2⟩
    have h3 : Below W.heap.size W w' := hW'.trans (h2.mono hW'.size)
    exact ⟨h1, ⟨(h3.cell (by exact l1)).trans y0, (h3.cell (by exact l1)).trans y1, (h3.cell (by exact l1)).trans y2, (h3.cell (by exact l1)).trans y3, (h3.cell (by exact l1)).trans y4, (h3.cell (by exact l1)).trans y5, (h3.cell (by exact l1)).trans y6, (h3.cell (by exact l2)).trans a1, (h3.cell (by exact l2)).trans a3⟩, h3⟩
  have HSW : Hid (∀ W', Below W.heap.size W W' → Calls Tryz.prog 25 #[.string ⟨(textL R).toArray⟩, .string l, .string t] W' fun e w' => e = .returned (.bool true) ∧ (w'.cell? ⟨w.heap.size, 0, none⟩ = some (.int .i64 R.vans) ∧ w'.cell? ⟨w.heap.size, 1, none⟩ = some (.int .i64 R.load) ∧ w'.cell? ⟨w.heap.size, 2, none⟩ = some (.int .i64 R.close) ∧ w'.cell? ⟨w.heap.size, 3, none⟩ = some (.int .i64 R.nodes) ∧ w'.cell? ⟨w.heap.size, 4, none⟩ = some (.int .i64 R.home) ∧ w'.cell? ⟨w.heap.size, 5, none⟩ = some (.slice aos R.stops.length caps) ∧ w'.cell? ⟨w.heap.size, 6, none⟩ = some (.slice aor R.roads.length capr) ∧ w'.cell? ⟨w.heap.size + 1, 1, none⟩ = some (.string l) ∧ w'.cell? ⟨w.heap.size + 1, 3, none⟩ = some (.string t)) ∧ Hid (Below W.heap.size W w')) := fun W' hW' => by
    refine (HSH.out W').mono ?_
    rintro e w' ⟨h1, h2⟩
    have h3 : Below W.heap.size W w' := hW'.trans (h2.mono hW'.size)
    exact ⟨h1, ⟨(h3.cell (by exact l1)).trans y0, (h3.cell (by exact l1)).trans y1, (h3.cell (by exact l1)).trans y2, (h3.cell (by exact l1)).trans y3, (h3.cell (by exact l1)).trans y4, (h3.cell (by exact l1)).trans y5, (h3.cell (by exact l1)).trans y6, (h3.cell (by exact l2)).trans a1, (h3.cell (by exact l2)).trans a3⟩, h3⟩
  clear HTX HSH
  go_wp2_with fail
  rw [← HWQ.out]
  go_region_held3 (fun w' => w'.cell? ⟨w.heap.size, 0, none⟩ = some (.int .i64 R.vans) ∧ w'.cell? ⟨w.heap.size, 1, none⟩ = some (.int .i64 R.load) ∧ w'.cell? ⟨w.heap.size, 2, none⟩ = some (.int .i64 R.close) ∧ w'.cell? ⟨w.heap.size, 3, none⟩ = some (.int .i64 R.nodes) ∧ w'.cell? ⟨w.heap.size, 4, none⟩ = some (.int .i64 R.home) ∧ w'.cell? ⟨w.heap.size, 5, none⟩ = some (.slice aos R.stops.length caps) ∧ w'.cell? ⟨w.heap.size, 6, none⟩ = some (.slice aor R.roads.length capr) ∧ w'.cell? ⟨w.heap.size + 1, 1, none⟩ = some (.string l) ∧ w'.cell? ⟨w.heap.size + 1, 3, none⟩ = some (.string t)) (go_keep) (first | (go_at_call 11; refine (HTW.out _ (by first | exact Below.refl _ _ | exact (Below.refl _ _).drew)).mono ?_; rintro e3 w3 ⟨rfl, ⟨s0, s1, s2, s3, s4, s5, s6, s7, s8⟩, HB3⟩) | (go_at_call 25; refine (HSW.out _ (by first | exact HB3.out | exact HB3.out.drew)).mono ?_; rintro e4 w4 ⟨rfl, ⟨t0, t1, t2, t3, t4, t5, t6, t7, t8⟩, HB4⟩))
  have b0 : w4.cell? ⟨w.heap.size + 1, 0, none⟩ = _ := (HB4.out.cell (by exact l2)).trans a0
  have b2 : w4.cell? ⟨w.heap.size + 1, 2, none⟩ = _ := (HB4.out.cell (by exact l2)).trans a2
  have m1 : w.heap.size < w4.heap.size := Nat.lt_of_lt_of_le l1 HB4.out.size
  have m2 : w.heap.size + 1 < w4.heap.size := Nat.lt_of_lt_of_le l2 HB4.out.size
  have HBF : Hid (Below w.heap.size w w4) := HBW.out.trans (HB4.out.mono HBW.out.size)
  clear y0 y1 y2 y3 y4 y5 y6 a0 a1 a2 a3 s0 s1 s2 s3 s4 s5 s6 s7 s8 HTW HSW HB3
  rcases hcase with ⟨rfl, hln, rfl⟩ | ⟨rfl, hln, S, hS⟩
  · have z2 : (l.toList == [110, 111, 110, 101]) = true := by rw [tn_list, hln]; rfl
    clear hln
    go_wp2_with fail
    go_ret
    exact ⟨rfl, HBF.out⟩
  · have z2 : (l.toList == [110, 111, 110, 101]) = false := by rw [tn_list]; exact beq_eq_false_iff_ne.2 hln
    have HD4 := hid (HDR.out w4 HBF.out)
    rw [hS] at HD4
    clear hln hS HDR
    go_wp2_with fail
    refine HD4.out.mono ?_
    rintro e5 w5 ⟨_, h5, hb5⟩
    obtain ⟨v5, rfl, ho5, _⟩ := h5 c S rfl
    obtain ⟨a5, c5, rfl, _, _⟩ := own_val ho5
    have c0 : w5.cell? ⟨w.heap.size + 1, 0, none⟩ = _ := (hb5.cell (by exact m2)).trans b0
    have c1 : w5.cell? ⟨w.heap.size + 1, 1, none⟩ = _ := (hb5.cell (by exact m2)).trans t7
    have c2 : w5.cell? ⟨w.heap.size + 1, 2, none⟩ = _ := (hb5.cell (by exact m2)).trans b2
    have n2 : w.heap.size + 1 < w5.heap.size := Nat.lt_of_lt_of_le m2 hb5.size
    have HB5 : Hid (Below w.heap.size w w5) := HBF.out.trans (hb5.mono HBF.out.size)
    clear h5 hb5 ho5 HD4 b0 b2 t0 t1 t2 t3 t4 t5 t6 t7 t8
    go_wp2_with fail
    go_ret
    exact ⟨rfl, HB5.out⟩

end Go.Proofs.YtebinaopncclgabGreatDoor
namespace Go.Proofs.YtebinaopncclgabGreatDoor
open Go.RowKit Go.IntWalk

theorem plan_short_len {r : Rd} (hok : RdOk r) {R : RoutesQ} (hp : PlanQ (insOf r (siteD r)) R) : (planB R).length ≤ 100 := by
  have h1 := planB_len (R := R)
  have h2 := hp.count
  have h3 := hp.few
  have hn := hok.nstops
  have hv := insVans hok
  have h4 : R.flatten.length = r.stops.length := h2
  omega
theorem ans_plan {r : Rd} (hok : RdOk r) {fc : Option RoutesQ} (hp : ∀ R, fc = some R → PlanQ (insOf r (siteD r)) R) :
    (planV fc).length ≤ 100 ∧ ((fc = none ∧ planV fc = noneB ∧ costV (insOf r (siteD r)) fc = 0) ∨ (fc.isSome = true ∧ planV fc ≠ noneB ∧ ∃ S, drvS r (siteD r) (planV fc) = some (costV (insOf r (siteD r)) fc, S))) := by
  cases fc with
  | none => exact ⟨by simp [planV], .inl ⟨rfl, rfl, rfl⟩⟩
  | some R =>
    have h := hp R rfl
    obtain ⟨S, hj⟩ := plan_judge hok h
    exact ⟨plan_short_len hok h, .inr ⟨rfl, planB_none (planQ_low hok h), S, drv_of hok hj⟩⟩
structure AnsFin (r : Rd) (b : Nat) : Prop where
  size : (ansP (insOf r (siteD r)) b).length ≤ 100
  short : ShortT ⟨(ansT (insOf r (siteD r)) b).toArray⟩
  check : checkS r (ansP (insOf r (siteD r)) b) (ansT (insOf r (siteD r)) b) = (0, 0)
  case_ : (ansV (insOf r (siteD r)) b = 2 ∧ ansP (insOf r (siteD r)) b = noneB ∧ ansC (insOf r (siteD r)) b = 0) ∨ (ansV (insOf r (siteD r)) b = 1 ∧ ansP (insOf r (siteD r)) b ≠ noneB ∧ ∃ S, drvS r (siteD r) (ansP (insOf r (siteD r)) b) = some (ansC (insOf r (siteD r)) b, S))
  lines : (ansT (insOf r (siteD r)) b).count 10 = (growG (insOf r (siteD r)) b).1.L.length
theorem ans_fin {r : Rd} (hok : RdOk r) {b : Nat} (hg : GoodTo (insOf r (siteD r)) b) (hd : (growG (insOf r (siteD r)) b).2 = true) : AnsFin r b := by
  obtain ⟨hse, _⟩ := (grw_inv (insFine hok) hok.nstops (insVans hok).1 (insVans hok).2 b hg).2 hd
  have hT : ansT (insOf r (siteD r)) b = textT (growG (insOf r (siteD r)) b).1.L := by unfold ansT; rw [if_pos hd]
  have hV : ansV (insOf r (siteD r)) b = if (growG (insOf r (siteD r)) b).1.fc.isSome = true then 1 else 2 := by unfold ansV; rw [if_pos hd]
  obtain ⟨h1, h2⟩ := text_len (tree_nodes _ 1 hse.tree)
  have h3 := hse.len
  have h4 := bq_bound
  obtain ⟨h5, h6⟩ := ans_plan hok hse.plan
  refine ⟨h5, ⟨?_, ?_⟩, ?_, ?_, ?_⟩
  · show (ansT (insOf r (siteD r)) b).toArray.size ≤ _
    rw [List.size_toArray, hT]; omega
  · show ((ansT (insOf r (siteD r)) b).toArray.toList).count 10 ≤ _
    rw [List.toList_toArray, hT, h2]; omega
  · rw [hT]; exact end_check hok hse
  · rw [hV]
    rcases h6 with ⟨k1, k2, k3⟩ | ⟨k1, k2, S, k3⟩
    · exact .inl ⟨by rw [k1]; rfl, k2, k3⟩
    · exact .inr ⟨by rw [k1]; rfl, k2, S, k3⟩
  · rw [hT]; exact h2

set_option maxRecDepth 100000 in
set_option maxHeartbeats 2000000 in
theorem dsolve_ok (s : ByteArray) (r : Rd) (B b : Nat) (w : World) (hs : s.size ≤ maxLen) (hp : parseS s.data.toList = (r, 0, 0)) (hok : RdOk r) (hb : b ≤ 144115188075855872) (hT : TabX B w) (hB : B ≤ w.heap.size) :
    Calls Tryz.prog 13 #[.string s, .int .i64 b] w fun e w' => e = .returned (.tuple #[ansA (ansV (insOf r (siteD r)) b) ⟨(ansP (insOf r (siteD r)) b).toArray⟩ (ansC (insOf r (siteD r)) b) ⟨(ansT (insOf r (siteD r)) b).toArray⟩, .int .i64 0]) ∧ GoodTo (insOf r (siteD r)) b ∧ Below w.heap.size w w' := by
  have HC : Hid (∀ W, Below w.heap.size w W → Calls Tryz.prog 24 #[.string s, .int .i64 b] W fun e w' => e = .returned (.tuple #[.agg #[.int .i64 (ansV (insOf r (siteD r)) b), .string ⟨(ansP (insOf r (siteD r)) b).toArray⟩, .int .i64 (ansC (insOf r (siteD r)) b), .string ⟨(ansT (insOf r (siteD r)) b).toArray⟩], .int .i64 0]) ∧ GoodTo (insOf r (siteD r)) b ∧ Below W.heap.size W w') := fun W hW => solve_ok s r B b W hs hp hok hb (hT.on hW hB) (Nat.le_trans hB hW.size)
  clear hp hok hT
  unfold ansA
  generalize ansV (insOf r (siteD r)) b = v at *
  generalize ansP (insOf r (siteD r)) b = pl at *
  generalize ansC (insOf r (siteD r)) b = c at *
  generalize ansT (insOf r (siteD r)) b = tx at *
  go_enter Tryz.func13, Tryz.ntmps13
  go_wp2_with fail
  refine (HC.out _ (below1 w _)).mono ?_
  rintro e1 w1 ⟨rfl, hg1, hb1⟩
  have hbx : w1.heap[w.heap.size]? = some (.cells #[.int .i64 0, .string ⟨#[]⟩, .int .i64 0, .string ⟨#[]⟩] 35 (0, 0)) := (hb1.block _ (by simp)).trans (heap_alloc_new w _)
  have y0 : w1.cell? ⟨w.heap.size, 0, none⟩ = _ := cell_of_row w1 _ 0 _ _ _ hbx
  have y1 : w1.cell? ⟨w.heap.size, 1, none⟩ = _ := cell_of_row w1 _ 1 _ _ _ hbx
  have y2 : w1.cell? ⟨w.heap.size, 2, none⟩ = _ := cell_of_row w1 _ 2 _ _ _ hbx
  have y3 : w1.cell? ⟨w.heap.size, 3, none⟩ = _ := cell_of_row w1 _ 3 _ _ _ hbx
  have ly : w.heap.size < w1.heap.size := (Array.getElem?_eq_some_iff.1 hbx).1
  have f0 := frozen_of_row w1 w.heap.size 0 _ _ hbx
  have f1 := frozen_of_row w1 w.heap.size 1 _ _ hbx
  have f2 := frozen_of_row w1 w.heap.size 2 _ _ hbx
  have f3 := frozen_of_row w1 w.heap.size 3 _ _ hbx
  have HG := hid hg1
  have HB1 : Hid (Below w.heap.size w w1) := (below1 w _).trans (hb1.mono (by simp))
  clear hg1 hb1 hbx HC
  go_wp2_with fail
  refine bodyPost_ret (v := .tuple #[.agg #[.int .i64 v, .string ⟨pl.toArray⟩, .int .i64 c, .string ⟨tx.toArray⟩], .int .i64 0]) (by simp [results, Tryz.results13, go_sem, y0, y1, y2, y3]) rfl ?_
  exact ⟨rfl, HG.out, (((HB1.out.setCell (by exact Nat.le_refl _) _).setCell (by exact Nat.le_refl _) _).setCell (by exact Nat.le_refl _) _).setCell (by exact Nat.le_refl _) _⟩

theorem YIs.sq {w : World} {yb B : Nat} {r : Rd} {vs vr : Value} (h : YIs w yb B r vs vr) (hok : RdOk r) : StR w vs r := StR.own h.stops (fun s hs => (hok.nice.stops s hs).1)
set_option maxRecDepth 100000 in
set_option maxHeartbeats 8000000 in
theorem finished_walk (X : Nat → Int) (S T : Nat → Nat → Int) (aS aR : Option Addr) (n m cn cm : Nat) (s1 : ByteArray) (w : World) (hTab : TabX w.heap.size w) (hX : ∀ i, i < 5 → -9223372036854775808 ≤ X i ∧ X i ≤ 9223372036854775807) (hn : n ≤ 9223372036854775807) (hm : m ≤ 9223372036854775807)
    (hS : Came w aS n 5 S) (hT : Came w aR m 3 T) (hz1 : s1.size ≤ 140737488355328) :
    Calls Tryz.prog 6 #[.agg #[.int .i64 (X 0), .int .i64 (X 1), .int .i64 (X 2), .int .i64 (X 3), .int .i64 (X 4), .slice aS n cn, .slice aR m cm], .string s1] w fun e w' => e = .returned (.bool true) ∧ Below w.heap.size w w' := by
  have hcB := fun W (hW : Below w.heap.size w W) => Bent_any X S T aS aR n m cn cm W hX hn hm (came_below hS hW) (came_below hT hW)
  have HCB := hide hcB
  have HOK := hide (bentR_ok X S T n m)
  have HTAB := hid hTab
  clear hcB hX hS hT hTab
  generalize bentR X S T n m = R at *
  have hns := HOK.out.nstops
  have HDR : Hid (∀ (vs vr vw : Value) (W : World), StR W vs R → SqR W vw (R.stops.length + 1) (siteD R) → (∃ ao n c, vr = .slice ao n c) → Calls Tryz.prog 15 #[inst R vs vr, vw, .string s1] W (DrvLeft W R.stops.length (drvS R (siteD R) s1.data.toList))) := fun vs vr vw W h1 h2 h3 => driven_any R (siteD R) s1 vs vr vw W HOK.out h1 h2 (site_range HOK.out) hz1 h3
  have hp : parseS (⟨(textL R).toArray⟩ : ByteArray).data.toList = (R, 0, 0) := by show parseS (textL R).toArray.toList = _; simpa using parse_text HOK.out
  have hsz : (⟨(textL R).toArray⟩ : ByteArray).size ≤ maxLen := by have := textL_length HOK.out; show (textL R).toArray.size ≤ _; unfold maxLen; simp; omega
  obtain ⟨b, hbe⟩ : ∃ b : Nat, b = 144115188075855872 := ⟨_, rfl⟩
  have hbI : ((b : Nat) : Int) = 144115188075855872 := by omega
  have HSO : Hid (∀ W, Below w.heap.size w W → Calls Tryz.prog 13 #[.string ⟨(textL R).toArray⟩, .int .i64 144115188075855872] W fun e w' => e = .returned (.tuple #[ansA (ansV (insOf R (siteD R)) b) ⟨(ansP (insOf R (siteD R)) b).toArray⟩ (ansC (insOf R (siteD R)) b) ⟨(ansT (insOf R (siteD R)) b).toArray⟩, .int .i64 0]) ∧ GoodTo (insOf R (siteD R)) b ∧ Below W.heap.size W w') := fun W hW =>
    by rw [← hbI]; exact dsolve_ok ⟨(textL R).toArray⟩ R w.heap.size b W hsz hp HOK.out (by omega) (HTAB.out.on hW (Nat.le_refl _)) hW.size
  have HFN : Hid (GoodTo (insOf R (siteD R)) b → AnsFin R b) := fun h => ans_fin HOK.out h (grw_ends (insFine HOK.out) hns (insVans HOK.out).1 (insVans HOK.out).2 (by omega) h)
  have HTD : Hid (∀ (vs vr vw : Value) (W : World), AnsFin R b → W.ownsRow w.heap.size 62 5 vs R.stops.length (ints R.stops.flatten) → W.ownsRow w.heap.size 64 3 vr R.roads.length (ints R.roads.flatten) → SqR W vw (R.stops.length + 1) (siteD R) → Calls Tryz.prog 14 #[inst R vs vr, vw, ansA (ansV (insOf R (siteD R)) b) ⟨(ansP (insOf R (siteD R)) b).toArray⟩ (ansC (insOf R (siteD R)) b) ⟨(ansT (insOf R (siteD R)) b).toArray⟩] W fun e w' => e = .returned (.bool true) ∧ Below W.heap.size W w') := fun vs vr vw W hf h1 h2 h3 => by
    refine told_any R w.heap.size _ _ _ _ vs vr vw W HOK.out h1 h2 h3 ?_ hf.short ?_ ?_
    · show (ansP (insOf R (siteD R)) b).toArray.size ≤ _
      have := hf.size
      rw [List.size_toArray]; omega
    · show checkS R (ansP (insOf R (siteD R)) b).toArray.toList (ansT (insOf R (siteD R)) b).toArray.toList = _
      rw [List.toList_toArray, List.toList_toArray]; exact hf.check
    · show (_ ∧ (ansP (insOf R (siteD R)) b).toArray.toList = _ ∧ _) ∨ (_ ∧ (ansP (insOf R (siteD R)) b).toArray.toList ≠ _ ∧ ∃ S, drvS R (siteD R) (ansP (insOf R (siteD R)) b).toArray.toList = _)
      rw [List.toList_toArray]; exact hf.case_
  have HLS : Hid (AnsFin R b → ∀ C S, drvS R (siteD R) s1.data.toList = some (C, S) → ansV (insOf R (siteD R)) b = 1 ∧ ansC (insOf R (siteD R)) b ≤ C) := fun hf C S hd => by
    rcases hf.case_ with ⟨k1, k2, k3⟩ | ⟨k1, k2, S', k3⟩
    · have h := hf.check
      rw [k2] at h
      have := sound_none HOK.out (l := s1.data.toList) h
      rw [this] at hd; cases hd
    · obtain ⟨c, S2, h1, h2⟩ := sound_claim HOK.out k2 hf.check
      rw [k3] at h1
      cases h1
      exact ⟨k1, h2 _ C S hd⟩
  unfold ansA at *
  generalize ansV (insOf R (siteD R)) b = av at *
  generalize ansP (insOf R (siteD R)) b = ap at *
  generalize ansC (insOf R (siteD R)) b = ac at *
  generalize ansT (insOf R (siteD R)) b = at_ at *
  clear hp hsz hbe hbI
  go_enter Tryz.func6, Tryz.ntmps6
  go_wp2_with fail
  refine (HCB.out _ (below1 w _)).mono ?_
  rintro e1 w1 ⟨vs, vr, rfl, hos, hor, hb1⟩
  obtain ⟨aos, caps, rfl, has, hsn⟩ := own_val hos
  obtain ⟨aor, capr, rfl, har, hrn⟩ := own_val hor
  unfold inst
  have HB1 : Hid (Below w.heap.size w w1) := (below1 w _).trans (hb1.mono (by simp))
  have HOS := hide (own_base hos (show w.heap.size ≤ _ by simp))
  have HOR := hide (own_base hor (show w.heap.size ≤ _ by simp))
  have hbz := HB1.out.size
  have HY : Hid (YIs (w1.alloc (.cells (yCells R (.slice aos R.stops.length caps) (.slice aor R.roads.length capr)) 28)) w1.heap.size w.heap.size R (.slice aos R.stops.length caps) (.slice aor R.roads.length capr)) := y_new HOS.out HOR.out
  have HWY : Hid (Below w.heap.size w (w1.alloc (.cells (yCells R (.slice aos R.stops.length caps) (.slice aor R.roads.length capr)) 28))) := HB1.out.alloc hbz _
  clear hos hor hb1 has hsn har hrn HCB HOS HOR
  have HT3 := hid (text0_any w.heap.size w.heap.size R (.slice aos R.stops.length caps) (.slice aor R.roads.length capr) _ HOK.out.nice HY.out.stops HY.out.roads)
  unfold inst yCells at HT3
  go_wp2_with fail
  refine HT3.out.mono ?_
  rintro e2 w2 ⟨rfl, hb2⟩
  have HY2 := hide (HY.out.below hb2)
  have HW2 : Hid (Below w.heap.size w w2) := HWY.out.trans (hb2.mono HWY.out.size)
  obtain ⟨y0, y1, y2, y3, y4, y5, y6, yf, yl⟩ := y_cells HY2.out
  clear hb2 HT3 HY HWY
  have HKW := hid (kways_any w.heap.size R (.slice aos R.stops.length caps) (.slice aor R.roads.length capr) _ HOK.out HY2.out.stops HY2.out.roads)
  unfold inst at HKW
  go_wp2_with fail
  refine HKW.out.mono ?_
  rintro e5 w5 ⟨v5, rfl, hg5, hb5⟩
  have HSQ5 := hid (hg5.sq (by omega))
  have HY5 := hide (HY2.out.below hb5)
  have HW5 : Hid (Below w.heap.size w w5) := HW2.out.trans (hb5.mono HW2.out.size)
  clear y0 y1 y2 y3 y4 y5 y6 yf yl
  obtain ⟨y0, y1, y2, y3, y4, y5, y6, yf, yl⟩ := y_cells HY5.out
  obtain ⟨g5, rfl, _⟩ := hg5
  clear hb5 HKW HY2 HW2
  go_wp2_with fail
  refine (HSO.out _ HW5.out).mono ?_
  rintro e6 w6 ⟨rfl, hg6, hb6⟩
  have HF := hid (HFN.out hg6)
  obtain ⟨W6, hW6⟩ : ∃ W6, W6 = w6.alloc (.cells #[.int .i64 av, .string ⟨ap.toArray⟩, .int .i64 ac, .string ⟨at_.toArray⟩] 35) := ⟨_, rfl⟩
  have hbW : Below w5.heap.size w5 W6 := by rw [hW6]; exact hb6.trans ((below1 w6 _).mono hb6.size)
  have hbx : W6.heap[w6.heap.size]? = some (.cells #[.int .i64 av, .string ⟨ap.toArray⟩, .int .i64 ac, .string ⟨at_.toArray⟩] 35 (0, 0)) := by rw [hW6]; exact heap_alloc_new w6 _
  have HBX := hid hbx
  have la : w6.heap.size < W6.heap.size := (Array.getElem?_eq_some_iff.1 hbx).1
  have a0 : W6.cell? ⟨w6.heap.size, 0, none⟩ = _ := cell_of_row W6 _ 0 _ _ _ hbx
  have a1 : W6.cell? ⟨w6.heap.size, 1, none⟩ = _ := cell_of_row W6 _ 1 _ _ _ hbx
  have a2 : W6.cell? ⟨w6.heap.size, 2, none⟩ = _ := cell_of_row W6 _ 2 _ _ _ hbx
  have a3 : W6.cell? ⟨w6.heap.size, 3, none⟩ = _ := cell_of_row W6 _ 3 _ _ _ hbx
  have HY6 := hide (HY5.out.below hbW)
  have HSQ6 := hid (HSQ5.out.below hbW)
  have HW6 : Hid (Below w.heap.size w W6) := HW5.out.trans (hbW.mono HW5.out.size)
  clear y0 y1 y2 y3 y4 y5 y6 yf yl
  obtain ⟨y0, y1, y2, y3, y4, y5, y6, yf, yl⟩ := y_cells (HY5.out.below hb6)
  have HTD6 := hid (HTD.out _ _ _ W6 HF.out HY6.out.stops HY6.out.roads HSQ6.out)
  unfold inst at HTD6
  have HWQ6 := hid hW6
  have HL1 := hid (HLS.out HF.out)
  clear hg6 hb6 hW6 hbW hbx HSO HFN HTD HLS HF HY5 HSQ5 HW5
  go_wp2_with fail
  rw [← HWQ6.out]
  refine HTD6.out.mono ?_
  rintro e7 w7 ⟨rfl, hb7⟩
  have HY7 := hide (HY6.out.below hb7)
  have HSQ7 := hid (HSQ6.out.below hb7)
  have HW7 : Hid (Below w.heap.size w w7) := HW6.out.trans (hb7.mono HW6.out.size)
  have b0 : w7.cell? ⟨w6.heap.size, 0, none⟩ = _ := (hb7.cell (by exact la)).trans a0
  have b2 : w7.cell? ⟨w6.heap.size, 2, none⟩ = _ := (hb7.cell (by exact la)).trans a2
  have lb : w6.heap.size < w7.heap.size := Nat.lt_of_lt_of_le la hb7.size
  clear y0 y1 y2 y3 y4 y5 y6 yf yl a0 a1 a2 a3
  obtain ⟨y0, y1, y2, y3, y4, y5, y6, yf, yl⟩ := y_cells HY7.out
  have HD7 := hid (HDR.out _ (.slice aor R.roads.length capr) _ w7 (HY7.out.sq HOK.out) HSQ7.out ⟨_, _, _, rfl⟩)
  unfold inst at HD7
  generalize drvS R (siteD R) s1.data.toList = V at *
  clear hb7 HTD6 HY6 HSQ6 HW6 HDR HBX HWQ6
  cases V with
  | none =>
    go_wp2_with fail
    refine HD7.out.mono ?_
    rintro e8 w8 ⟨h8, _, hb8⟩
    have he8 := h8 rfl
    subst he8
    have c0 : w8.cell? ⟨w6.heap.size, 0, none⟩ = _ := (hb8.cell (by exact lb)).trans b0
    have c2 : w8.cell? ⟨w6.heap.size, 2, none⟩ = _ := (hb8.cell (by exact lb)).trans b2
    have lc : w6.heap.size < w8.heap.size := Nat.lt_of_lt_of_le lb hb8.size
    have HW8 : Hid (Below w.heap.size w w8) := HW7.out.trans (hb8.mono HW7.out.size)
    clear h8 hb8 HD7 b0 b2 y0 y1 y2 y3 y4 y5 y6 yf yl
    go_wp2_with fail
    go_ret
    exact ⟨rfl, HW8.out⟩
  | some cs =>
    obtain ⟨C, S'⟩ := cs
    obtain ⟨hv1, hle⟩ := HL1.out C S' rfl
    subst hv1
    go_wp2_with fail
    refine HD7.out.mono ?_
    rintro e8 w8 ⟨_, h8, hb8⟩
    obtain ⟨v8, rfl, ho8, _⟩ := h8 C S' rfl
    obtain ⟨a8, c8, rfl, _, _⟩ := own_val ho8
    have c0 : w8.cell? ⟨w6.heap.size, 0, none⟩ = _ := (hb8.cell (by exact lb)).trans b0
    have c2 : w8.cell? ⟨w6.heap.size, 2, none⟩ = _ := (hb8.cell (by exact lb)).trans b2
    have lc : w6.heap.size < w8.heap.size := Nat.lt_of_lt_of_le lb hb8.size
    have HW8 : Hid (Below w.heap.size w w8) := HW7.out.trans (hb8.mono HW7.out.size)
    clear h8 hb8 ho8 HD7 b0 b2 y0 y1 y2 y3 y4 y5 y6 yf yl
    go_wp2_with fail
    go_ret
    exact ⟨rfl, HW8.out⟩
end Go.Proofs.YtebinaopncclgabGreatDoor
