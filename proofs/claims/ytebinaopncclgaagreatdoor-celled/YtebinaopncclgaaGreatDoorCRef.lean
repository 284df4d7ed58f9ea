/- Walks of the document's answer: Cells. -/
import Derived.Test.YtebinaopncclgaaGreatDoorCSq
import Derived.Deep.WholeRow
import Derived.Test.YtebinaopncclgaaGreatDoorCRcells
namespace Go.Proofs.YtebinaopncclgaaGreatDoor
open Go.RowKit Go.IntWalk

def arcsZ (x : Int) (vf : Value) : Array Value := #[.int .i64 x, vf] ++ Array.replicate 64 (.int .i64 0)
theorem zero_arcs (W : World) : (zeroValue 138).run Tryz.prog W = .ok (.agg (arcsZ 0 (.slice none 0 0))) W := by kernel_rfl
theorem arcsZ_ne (x : Int) (vf : Value) : ¬ arcsZ x vf = #[] := by
  intro h; have := congrArg Array.size h; simp [arcsZ] at this

theorem agg_arcs (W : World) : (isAgg 138).run Tryz.prog W = .ok true W := by kernel_rfl
theorem size_arcs (W : World) : (sizeOf 138).run Tryz.prog W = .ok 66 W := by kernel_rfl
/- a result that lies in a box, read as a whole -/
theorem results_box {P : Program} {fn : Func} {tmps : Array Value} {a : Nat} {t : TypeId} {p : Addr} {c : Array Value} {n : Nat} {w : World} (hr : fn.results = #[.cell a t]) (ha : tmps.getD a undef = .pointer (some p)) (hg : (isAgg t).run P w = .ok true w) (hz : (sizeOf t).run P w = .ok n w) (hl : (loadCellsFrom p 0 n #[]).run P w = .ok c w) : (results fn tmps).run P w = .ok (.agg c) w := by
  have ha2 : tmps[a]?.getD undef = .pointer (some p) := by simpa using ha
  unfold results; rw [hr]
  simp [loadVar, loadCells, ha2, hg, hz, hl, asAddr]
theorem arcsZ_at {w : World} {x : Int} {vf : Value} {r : Rd} (hx : x = r.vans) : ArcsAt (w.alloc (.cells (arcsZ x vf) 138)) w.heap.size 0 r (fun _ _ => 0) vf := by
  have hb := heap_alloc_new w (.cells (arcsZ x vf) 138)
  refine ⟨⟨_, _, hb⟩, ?_, ?_, fun a b ha hb' => ?_⟩
  · rw [cell_of_row _ _ _ _ _ _ hb, hx]
    unfold arcsZ
    rw [Array.getElem?_append_left (by simp)]; rfl
  · rw [cell_of_row _ _ _ _ _ _ hb]
    unfold arcsZ
    rw [Array.getElem?_append_left (by simp)]; rfl
  · rw [cell_of_row _ _ _ _ _ _ hb]
    unfold arcsZ
    rw [Array.getElem?_append_right (by simp; omega), Array.getElem?_replicate, if_pos (by simp; omega)]

set_option maxRecDepth 100000 in
set_option maxHeartbeats 4000000 in
theorem copen_any (B B' : Nat) (r : Rd) (vs vr : Value) (w : World) (hn : RdOk r) (hs : w.ownsRow B 50 5 vs r.stops.length (ints r.stops.flatten)) (hr : w.ownsRow B' 52 3 vr r.roads.length (ints r.roads.flatten)) :
    Calls Tryz.prog 87 #[inst r vs vr] w fun e w' => ∃ v, e = .returned (.agg (arcsZ r.vans v)) ∧ GridO w' w.heap.size v (r.stops.length + 1) (fun i j => wayF r (siteN r i) (siteN r j)) ∧ Below w.heap.size w w' := by
  have HCB : Hid (∀ W, Below w.heap.size w W → Calls Tryz.prog 67 #[inst r vs vr] W fun e w' => ∃ v, e = .returned v ∧ GridO w' W.heap.size v (r.stops.length + 1) (fun i j => wayF r (siteN r i) (siteN r j)) ∧ Below W.heap.size W w') := fun W hW => between_own B B' r vs vr W hn (own_below hs hW) (own_below hr hW)
  have hns := hn.nstops
  obtain ⟨aos, caps, rfl, _, _⟩ := own_val hs
  obtain ⟨aor, capr, rfl, _, _⟩ := own_val hr
  clear hs hr hn
  unfold inst at *
  have hzv := zero_arcs
  have hzn := arcsZ_ne
  go_enter Tryz.func87, Tryz.ntmps87
  go_wp2_with fail
  refine (HCB.out _ (below2 w _ _)).mono ?_
  rintro e1 w1 ⟨v1, rfl, hg1, hb1⟩
  have HG1 := hid hg1
  have HW1 : Hid (Below w.heap.size w w1) := (below2 w _ _).trans (hb1.mono (by simp; omega))
  have d0 : w1.cell? ⟨w.heap.size, 0, none⟩ = some (.int .i64 r.vans) := (hb1.cell (by simp; omega)).trans (by simp [go_sem])
  have hz : w.heap.size + 2 ≤ w1.heap.size := by have := hb1.size; simp at this; omega
  have hrow : w1.heap[w.heap.size + 1]? = some (.cells (arcsZ 0 (.slice none 0 0)) 138 (0, 0)) := (hb1.block _ (by simp)).trans (by have h := heap_alloc_new (w.alloc (.cells #[.int .i64 r.vans, .int .i64 r.load, .int .i64 r.close, .int .i64 r.nodes, .int .i64 r.home, .slice aos r.stops.length caps, .slice aor r.roads.length capr] 36)) (.cells (arcsZ 0 (.slice none 0 0)) 138); rw [show (w.alloc (.cells #[.int .i64 r.vans, .int .i64 r.load, .int .i64 r.close, .int .i64 r.nodes, .int .i64 r.home, .slice aos r.stops.length caps, .slice aor r.roads.length capr] 36)).heap.size = w.heap.size + 1 by simp] at h; exact h)
  obtain ⟨g7, _, rfl, _⟩ := hg1
  clear hb1
  have hsl : (((arcsZ 0 (.slice none 0 0)).toList.set 0 (Value.int .i64 r.vans)).set 1 (.slice (some ⟨g7, 0, none⟩) (r.stops.length + 1) (r.stops.length + 1))) = (arcsZ r.vans (.slice (some ⟨g7, 0, none⟩) (r.stops.length + 1) (r.stops.length + 1))).toList := by unfold arcsZ; rw [Array.toList_append, Array.toList_append]; rfl
  obtain ⟨vx, hvx⟩ : ∃ vx, vx = Value.slice (some ⟨g7, 0, none⟩) (r.stops.length + 1) (r.stops.length + 1) := ⟨_, rfl⟩
  have hone : vx.oneCell' = true := by rw [hvx]; rfl
  have hst : Sem.run Tryz.prog (storeCells ⟨w.heap.size + 1, 0, none⟩ (((arcsZ 0 (.slice none 0 0)).toList.set 0 (Value.int .i64 r.vans)).set 1 (.slice (some ⟨g7, 0, none⟩) (r.stops.length + 1) (r.stops.length + 1)))) w1 = .ok () (w1.setRow (w.heap.size + 1) (arcsZ r.vans (.slice (some ⟨g7, 0, none⟩) (r.stops.length + 1) (r.stops.length + 1)))) := by
    rw [hsl, ← hvx]
    have h := run_storeCells_from (P := Tryz.prog) (w.heap.size + 1) 138 (arcsZ r.vans vx).toList 0 _ w1 hrow (by rw [Nat.zero_add, Array.length_toList]; unfold arcsZ; rw [Array.size_append, Array.size_append]; rfl) (by
      intro u hu
      simp only [arcsZ, Array.toList_append, List.mem_append, Array.toList_replicate, List.mem_replicate] at hu
      rcases hu with hu | hu
      · simp at hu; rcases hu with rfl | rfl
        · rfl
        · exact hone
      · rw [hu.2]; rfl)
    rw [List.take_zero, List.nil_append, Array.toArray_toList] at h; exact h
  obtain ⟨w2, hw2⟩ : ∃ w2, w2 = w1.setRow (w.heap.size + 1) (arcsZ r.vans (.slice (some ⟨g7, 0, none⟩) (r.stops.length + 1) (r.stops.length + 1))) := ⟨_, rfl⟩
  rw [← hw2] at hst
  have hld : Sem.run Tryz.prog (loadCellsFrom ⟨w.heap.size + 1, 0, none⟩ 0 66 #[]) w2 = .ok (arcsZ r.vans (.slice (some ⟨g7, 0, none⟩) (r.stops.length + 1) (r.stops.length + 1))) w2 := by
    have h := run_loadCells_list (P := Tryz.prog) w2 ⟨w.heap.size + 1, 0, none⟩ (arcsZ r.vans (.slice (some ⟨g7, 0, none⟩) (r.stops.length + 1) (r.stops.length + 1))).toList (fun j v hv => by
      have hadd : (⟨w.heap.size + 1, 0, none⟩ : Addr).add j = ⟨w.heap.size + 1, j, none⟩ := by unfold Addr.add; split <;> simp_all
      rw [hadd, hw2, cell_setRow_same _ _ _ _ _ _ _ hrow]
      simpa using hv)
    rw [show (arcsZ r.vans (.slice (some ⟨g7, 0, none⟩) (r.stops.length + 1) (r.stops.length + 1))).toList.length = 66 by rw [Array.length_toList]; unfold arcsZ; rw [Array.size_append, Array.size_replicate]; rfl, Array.toArray_toList] at h
    exact h
  have HB2 : Hid (Below w.heap.size w w2) := by
    show Below _ _ _
    rw [hw2]
    exact HW1.out.trans ⟨rfl, rfl, rfl, by simp, fun k hk => setRow_other w1 _ k _ (by omega)⟩
  have HW2 := hid hw2
  clear hw2 hsl hrow hvx hone
  go_wp2
  refine bodyPost_ret (v := .agg (arcsZ r.vans (.slice (some ⟨g7, 0, none⟩) (r.stops.length + 1) (r.stops.length + 1)))) (results_box (t := 138) Tryz.results87 ?ra (agg_arcs _) (size_arcs _) hld) rfl ?_
  case ra => simp
  refine ⟨_, rfl, ?_, HB2.out⟩
  obtain ⟨g, G, h1, h2, h3, h4⟩ := HG1.out
  cases h1
  have hlb : ∀ k, w.heap.size + 2 ≤ k → w2.heap[k]? = w1.heap[k]? := fun k hk => by rw [HW2.out]; exact setRow_other w1 _ k _ (by omega)
  refine (show GridO w2 (w.heap.size + 2) _ _ _ from ⟨g7, G, rfl, ?_, fun i hi => ?_, h4⟩).base (by omega)
  · have h2' := own_base (B' := w.heap.size + 2) h2 (by simp)
    rcases h2'.2 with ⟨hh, _⟩ | ⟨g', cap, cur, hv, hb, hg, hrest⟩
    · cases hh
    · exact ⟨h2'.1, .inr ⟨g', cap, cur, hv, hb, (by rw [hlb g' hb]; exact hg), hrest⟩⟩
  · obtain ⟨k1, ci, k2, k3⟩ := h3 i hi
    have k1' : w.heap.size + 2 ≤ G i := by simp at k1; omega
    exact ⟨k1', ci, by rw [hlb _ k1']; exact k2, k3⟩
end Go.Proofs.YtebinaopncclgaaGreatDoor
namespace Go.Proofs.YtebinaopncclgaaGreatDoor
open Go.RowKit Go.IntWalk

def cellsE (x : Rd × Nat × Int) (f b : List UInt8) : Int := if x.2.2 ≠ 0 then x.2.2 else if readS x.1.stops.length (fun _ _ => 0) f b = none then 13 else 0
def CellsLeft (w : World) (x : Rd × Nat × Int) (f b : List UInt8) (e : Ending) (w' : World) : Prop :=
  ∃ v, e = .returned (.tuple #[v, .int .i64 (cellsE x f b)]) ∧ (cellsE x f b ≠ 0 → v = .slice none 0 0) ∧
    (∀ T, x.2.2 = 0 → readS x.1.stops.length (fun _ _ => 0) f b = some T → GridO w' w.heap.size v (x.1.stops.length + x.1.vans.toNat) (fun i j => cellS x.1.stops.length T (siteD x.1) (lineN x.1.stops.length i) (lineN x.1.stops.length j))) ∧ Below w.heap.size w w'

set_option maxRecDepth 100000 in
set_option maxHeartbeats 4000000 in
theorem dcells_any (s f b : ByteArray) (w : World) (hs : s.size ≤ maxLen) (hf : f.size ≤ maxLen) (hb : b.size ≤ maxLen) : Calls Tryz.prog 44 #[.string s, .string f, .string b] w (CellsLeft w (parseS s.data.toList) f.data.toList b.data.toList) := by
  have HCP : Hid (∀ W, Calls Tryz.prog 59 #[.string s] W (Parsed W (parseS s.data.toList))) := fun W => parse_any s W hs
  have hok : (parseS s.data.toList).2.2 = 0 → RdOk (parseS s.data.toList).1 := parse_rdok
  generalize parseS s.data.toList = x at *
  obtain ⟨r, nat, er⟩ := x
  by_cases h0 : er = 0
  · subst h0
    have HOK := hid (hok rfl)
    have hns := HOK.out.nstops
    have hnr := HOK.out.nroads
    have hvv : 1 ≤ r.vans ∧ r.vans ≤ 3 := by
      have := HOK.out.head
      simp only [headOk, Bool.and_eq_true, fit_iff, decide_eq_true_eq] at this
      omega
    obtain ⟨vn, hvn⟩ : ∃ vn : Nat, r.vans = vn := ⟨r.vans.toNat, by omega⟩
    have HVN := hid hvn
    clear hok hs hvn
    go_enter Tryz.func44, Tryz.ntmps44
    go_wp2_with fail
    refine (HCP.out _).mono ?_
    rintro e1 w1 ⟨vs, vr, rfl, hos, hor, hb1⟩
    unfold inst
    obtain ⟨aos, caps, hv1, _, _⟩ := own_val hos
    obtain ⟨aor, capr, hv2, _, _⟩ := own_val hor
    subst hv1 hv2
    have HB1 : Hid (Below w.heap.size w w1) := by first | exact hb1 | exact (below1 w _).trans (hb1.mono (by simp))
    have HS1 := hid hos
    have HR1 := hid hor
    clear hos hor hb1 HCP
    go_wp2_with fail
    refine (copen_any w.heap.size w.heap.size r (.slice aos r.stops.length caps) (.slice aor r.roads.length capr) _ HOK.out (HS1.out.alloc _) (HR1.out.alloc _)).mono ?_
    rintro e2 w2 ⟨v2, rfl, hg2, hb2⟩
    have hb12 : Below w1.heap.size w1 w2 := (below1 w1 _).trans (hb2.mono (by simp))
    have HB2 : Hid (Below w.heap.size w w2) := HB1.out.trans (hb12.mono HB1.out.size)
    have HSQ : Hid (SqR w2 v2 (r.stops.length + 1) (siteD r)) := hg2.sq (by omega)
    obtain ⟨g7, _, rfl, _⟩ := hg2
    have HAW : Hid (ArcsAt (w2.alloc (.cells (arcsZ r.vans (.slice (some ⟨g7, 0, none⟩) (r.stops.length + 1) (r.stops.length + 1))) 138)) w2.heap.size 0 r (fun _ _ => 0) (.slice (some ⟨g7, 0, none⟩) (r.stops.length + 1 : Nat) (r.stops.length + 1))) := arcsZ_at rfl
    obtain ⟨cz, hcz⟩ : ∃ cz, cz = arcsZ r.vans (.slice (some ⟨g7, 0, none⟩) (r.stops.length + 1) (r.stops.length + 1)) := ⟨_, rfl⟩
    have hcs : cz.size = 66 := by rw [hcz]; unfold arcsZ; rw [Array.size_append, Array.size_replicate]; rfl
    have hone : cz.all (·.oneCell') = true := by
      rw [hcz, Array.all_eq_true_iff_forall_mem]
      intro u hu
      simp only [arcsZ, Array.mem_append, Array.mem_replicate] at hu
      rcases hu with hu | hu
      · simp at hu; rcases hu with rfl | rfl <;> rfl
      · rw [hu.2]; rfl
    have hst := run_storeCells_new (P := Tryz.prog) w2 138 Tryz.zeroCells138 cz (by rw [hcs]; kernel_rfl) (by rw [hcs]; kernel_rfl) hone
    rw [← hcz] at HAW ⊢
    clear hcz hone hb2 hb12 HS1 HR1 HB1
    go_wp2_with fail
    refine (aread_any w2.heap.size 0 r (fun _ _ => 0) (some ⟨g7, 0, none⟩) (r.stops.length + 1) r.stops.length f b _ hns hf hb HAW.out).mono ?_
    rintro e3 w3 ⟨q1, q2, hb3⟩
    have HB3 : Hid (Below w2.heap.size w2 w3) := (below1 w2 _).trans hb3
    clear hst hcs hb3 HAW
    cases hrd : readS r.stops.length (fun _ _ => 0) f.data.toList b.data.toList with
    | none =>
      obtain rfl := q1 hrd
      have HE : Hid (cellsE (r, nat, 0) f.data.toList b.data.toList = 13) := by show _ = _; unfold cellsE; dsimp only; rw [if_neg (by omega), if_pos hrd]
      have HRD := hid hrd
      clear q1 q2 hrd HSQ
      go_wp2_with fail
      refine bodyPost_ret (v := .tuple #[.slice none 0 0, .int .i64 13]) (by simp [results, Tryz.results44, go_sem]) rfl ?_
      exact ⟨_, by rw [HE.out], fun _ => rfl, fun T _ h => (by dsimp only at h; rw [HRD.out] at h; cases h), by first | exact HB2.out.trans (HB3.out.mono HB2.out.size) | exact below_drewN (HB2.out.trans (HB3.out.mono HB2.out.size)) _⟩
    | some T =>
      obtain ⟨rfl, hA3⟩ := q2 T hrd
      have HE : Hid (cellsE (r, nat, 0) f.data.toList b.data.toList = 0) := by show _ = _; unfold cellsE; dsimp only; rw [if_neg (by omega), if_neg (by rw [hrd]; simp)]
      have HRD := hid hrd
      have HCS := hid (square_own w2.heap.size 0 r T (siteD r) _ r.stops.length vn (r.stops.length + vn) w3 hns HVN.out (by have := HVN.out; omega) (by have := HVN.out; omega) rfl hA3 (HSQ.out.below HB3.out))
      clear q1 q2 hrd hA3 HSQ
      go_wp2_with fail
      refine HCS.out.mono ?_
      rintro e4 w4 ⟨v4, rfl, hg4, hb4⟩
      have HB4 : Hid (Below w.heap.size w w4) := HB2.out.trans ((HB3.out.trans (hb4.mono HB3.out.size)).mono HB2.out.size)
      have HG4 : Hid (GridO w4 w.heap.size v4 (r.stops.length + vn) (fun i j => cellS r.stops.length T (siteD r) (lineN r.stops.length i) (lineN r.stops.length j))) := hg4.base (by have := HB2.out.size; have := HB3.out.size; omega)
      clear hg4 hb4 HCS
      go_wp2_with fail
      refine bodyPost_ret (v := .tuple #[v4, .int .i64 0]) (by simp [results, Tryz.results44, go_sem]) rfl ?_
      exact ⟨_, by rw [HE.out], fun h => absurd HE.out h, fun T' _ h => (by dsimp only at h ⊢; rw [HRD.out] at h; cases h; rw [HVN.out]; exact HG4.out), HB4.out⟩
  · have hne : (er != 0) = true := by simp [h0]
    have HE : Hid (cellsE (r, nat, er) f.data.toList b.data.toList = er) := by show _ = _; unfold cellsE; dsimp only; rw [if_pos h0]
    have HNE := hid h0
    clear hok hs h0
    go_enter Tryz.func44, Tryz.ntmps44
    go_wp2_with fail
    refine (HCP.out _).mono ?_
    rintro e1 w1 ⟨vs, vr, rfl, hos, hor, hb1⟩
    unfold inst
    obtain ⟨aos, caps, hv1, _, _⟩ := own_val hos
    obtain ⟨aor, capr, hv2, _, _⟩ := own_val hor
    subst hv1 hv2
    have HB1 : Hid (Below w.heap.size w w1) := by first | exact hb1 | exact (below1 w _).trans (hb1.mono (by simp))
    clear hos hor hb1 HCP
    go_wp2_with fail
    refine bodyPost_ret (v := .tuple #[.slice none 0 0, .int .i64 er]) (by simp [results, Tryz.results44, go_sem]) rfl ?_
    exact ⟨_, by rw [HE.out], fun _ => rfl, fun T h => absurd h HNE.out, by first | exact HB1.out.alloc HB1.out.size _ | exact HB1.out⟩
end Go.Proofs.YtebinaopncclgaaGreatDoor
namespace Go.Proofs.YtebinaopncclgaaGreatDoor
open Go.RowKit Go.IntWalk

def RCellsLeft (w : World) (x : Rd × Nat × Int) (f b : List UInt8) (e : Ending) (w' : World) : Prop :=
  ∃ v, e = .returned (.tuple #[v, .int .i64 (cellsE x f b)]) ∧ (cellsE x f b ≠ 0 → v = .slice none 0 0) ∧
    (∀ T, x.2.2 = 0 → readS x.1.stops.length (fun _ _ => 0) f b = some T → ∃ us : List Value, us.length = x.1.stops.length + x.1.vans.toNat ∧ GridR w' w.heap.size w'.heap.size v (x.1.stops.length + x.1.vans.toNat) (fun i j => cellS x.1.stops.length T (siteD x.1) (lineN x.1.stops.length i) (lineN x.1.stops.length j)) us) ∧ Below w.heap.size w w'

set_option maxRecDepth 100000 in
set_option maxHeartbeats 4000000 in
theorem rdcells_any (s f b : ByteArray) (w : World) (hs : s.size ≤ maxLen) (hf : f.size ≤ maxLen) (hb : b.size ≤ maxLen) : Calls Tryz.prog 45 #[.string s, .string f, .string b] w (RCellsLeft w (parseS s.data.toList) f.data.toList b.data.toList) := by
  have HCO : Hid (∀ W, Calls Tryz.prog 30 #[.string s] W (GroundLeft W (parseS s.data.toList))) := fun W => on_any s W hs
  have hok : (parseS s.data.toList).2.2 = 0 → RdOk (parseS s.data.toList).1 := parse_rdok
  generalize parseS s.data.toList = x at *
  obtain ⟨r, nat, er⟩ := x
  by_cases h0 : er = 0
  · subst h0
    have HOK := hid (hok rfl)
    have hns := HOK.out.nstops
    have hnr := HOK.out.nroads
    have hvv : 1 ≤ r.vans ∧ r.vans ≤ 3 := by
      have := HOK.out.head
      simp only [headOk, Bool.and_eq_true, fit_iff, decide_eq_true_eq] at this
      omega
    obtain ⟨vn, hvn⟩ : ∃ vn : Nat, r.vans = vn := ⟨r.vans.toNat, by omega⟩
    have HVN := hid hvn
    have HRA := hid (read_arcs r.stops.length f.data.toList b.data.toList)
    have HC1 : Hid (∀ W, _) := fun W => rarcs_any r.stops.length f W hns hf
    have HC2 : Hid (∀ W, _) := fun W => rarcs_any r.stops.length b W hns hb
    have HLF : Hid (∀ L, arcsS r.stops.length f.data.toList = some L → ArcsOk r.stops.length L ∧ L.length ≤ 2000000) := fun L h => ⟨(arcsS_ok h).1, by have := arcsS_few hns h; omega⟩
    have HLB : Hid (∀ L, arcsS r.stops.length b.data.toList = some L → ArcsOk r.stops.length L ∧ L.length ≤ 2000000) := fun L h => ⟨(arcsS_ok h).1, by have := arcsS_few hns h; omega⟩
    have HEN : Hid (readS r.stops.length (fun _ _ => 0) f.data.toList b.data.toList = none → cellsE (r, nat, 0) f.data.toList b.data.toList = 13) := fun h => by unfold cellsE; dsimp only; rw [if_neg (by omega), if_pos h]
    have HEZ : Hid (∀ T, readS r.stops.length (fun _ _ => 0) f.data.toList b.data.toList = some T → cellsE (r, nat, 0) f.data.toList b.data.toList = 0) := fun T h => by unfold cellsE; dsimp only; rw [if_neg (by omega), if_neg (by rw [h]; simp)]
    clear hok hs hvn hf hb
    go_enter Tryz.func45, Tryz.ntmps45
    go_wp2_with fail
    refine (HCO.out _).mono ?_
    rintro e1 w1 ⟨vs, vr, vw, rfl, hos, hor, _, hg1, hb1⟩
    dsimp only at hos hor hg1
    obtain ⟨us0, hus0, hgr⟩ := hg1 rfl
    have HSQ0 : Hid (SqR w1 vw (r.stops.length + 1) (siteD r)) := hgr.sq hus0 (by omega)
    obtain ⟨aos, caps, hv1, _, _⟩ := own_val hos
    obtain ⟨aor, capr, hv2, _, _⟩ := own_val hor
    obtain ⟨afw, cfw, hv3, _, _⟩ := id HSQ0.out
    subst hv1 hv2 hv3
    have HB1 : Hid (Below w.heap.size w w1) := by first | exact hb1 | exact (below1 w _).trans (hb1.mono (by simp))
    clear hos hor hg1 hb1 hgr hus0 HCO
    unfold ground
    go_wp2_with fail
    refine (HC1.out _).mono ?_
    rintro e2 w2 ⟨q1, q2, hb2⟩
    obtain ⟨W, hW⟩ : ∃ W, W = w1.alloc (.cells (ground r (.slice aos r.stops.length caps) (.slice aor r.roads.length capr) (.slice afw (r.stops.length + 1 : Nat) cfw)) 70) := ⟨_, rfl⟩
    obtain ⟨hbW, hbox, k0, k1, k2, k3, k4, k5, k6, k7⟩ := ground_box hW
    have hbW2 : Below W.heap.size W w2 := by rw [hW]; exact hb2
    have HB2 : Hid (Below w1.heap.size w1 w2) := hbW.trans (hbW2.mono hbW.size)
    have HBW2 := hid hbW2
    have HWS : Hid (w1.heap.size < W.heap.size) := hbox
    have HK5 := hid k5
    have HKK : Hid (∀ W2, Below W.heap.size W W2 → w1.heap.size < W2.heap.size ∧ W2.cell? ⟨w1.heap.size, 0, none⟩ = some (.int .i64 r.vans) ∧ W2.cell? ⟨w1.heap.size, 1, none⟩ = some (.int .i64 r.load) ∧ W2.cell? ⟨w1.heap.size, 2, none⟩ = some (.int .i64 r.close) ∧ W2.cell? ⟨w1.heap.size, 3, none⟩ = some (.int .i64 r.nodes) ∧ W2.cell? ⟨w1.heap.size, 4, none⟩ = some (.int .i64 r.home) ∧ W2.cell? ⟨w1.heap.size, 5, none⟩ = some (.slice aos r.stops.length caps) ∧ W2.cell? ⟨w1.heap.size, 6, none⟩ = some (.slice aor r.roads.length capr) ∧ W2.cell? ⟨w1.heap.size, 7, none⟩ = some (.slice afw (r.stops.length + 1 : Nat) cfw)) := fun W2 h2 => ⟨Nat.lt_of_lt_of_le hbox h2.size, (h2.cell (by exact hbox)).trans k0, (h2.cell (by exact hbox)).trans k1, (h2.cell (by exact hbox)).trans k2, (h2.cell (by exact hbox)).trans k3, (h2.cell (by exact hbox)).trans k4, (h2.cell (by exact hbox)).trans k5, (h2.cell (by exact hbox)).trans k6, (h2.cell (by exact hbox)).trans k7⟩
    clear hb2 hbW hbW2 k0 k1 k2 k3 k4 k5 k6 k7 hbox hW HC1
    cases hA : arcsS r.stops.length f.data.toList with
    | none =>
      obtain rfl := q1 hA
      have HRX := hid (HRA.out.1 (.inl hA))
      have HEX := hid (HEN.out HRX.out)
      clear q1 q2 hA
      go_wp2_with fail
      refine (HC2.out _).mono ?_
      rintro e3 w3 ⟨r1, r2, hb3⟩
      have HB3 : Hid (Below w1.heap.size w1 w3) := HB2.out.trans (hb3.mono HB2.out.size)
      have HW3 : Hid (Below w.heap.size w w3) := HB1.out.trans (HB3.out.mono HB1.out.size)
      cases hO : arcsS r.stops.length b.data.toList with
      | none =>
        obtain rfl := r1 hO
        clear r1 r2 hO hb3
        go_wp2_with fail
        refine bodyPost_ret (v := .tuple #[.slice none 0 0, .int .i64 13]) (by simp [results, Tryz.results45, go_sem]) rfl ?_
        exact ⟨_, by rw [HEX.out], fun _ => rfl, fun T _ h => (by dsimp only at h; rw [HRX.out] at h; cases h), by first | exact HW3.out | exact HW3.out.drew⟩
      | some off =>
        obtain ⟨v3, rfl, ho3⟩ := r2 off hO
        obtain ⟨ao3, co3, rfl, _, _⟩ := own_val ho3
        clear r1 r2 hO hb3 ho3
        go_wp2_with fail
        refine bodyPost_ret (v := .tuple #[.slice none 0 0, .int .i64 13]) (by simp [results, Tryz.results45, go_sem]) rfl ?_
        exact ⟨_, by rw [HEX.out], fun _ => rfl, fun T _ h => (by dsimp only at h; rw [HRX.out] at h; cases h), by first | exact HW3.out | exact HW3.out.drew⟩
    | some on =>
      obtain ⟨v2, rfl, ho2⟩ := q2 on hA
      obtain ⟨ao2, co2, rfl, _, _⟩ := own_val ho2
      have HO2 := hid ho2
      clear q1 q2 ho2
      go_wp2_with fail
      refine (HC2.out _).mono ?_
      rintro e3 w3 ⟨r1, r2, hb3⟩
      have HB3 : Hid (Below w1.heap.size w1 w3) := HB2.out.trans (hb3.mono HB2.out.size)
      have HW3 : Hid (Below w.heap.size w w3) := HB1.out.trans (HB3.out.mono HB1.out.size)
      cases hO : arcsS r.stops.length b.data.toList with
      | none =>
        obtain rfl := r1 hO
        have HRX := hid (HRA.out.1 (.inr hO))
        have HEX := hid (HEN.out HRX.out)
        clear r1 r2 hO hA hb3 HO2
        go_wp2_with fail
        refine bodyPost_ret (v := .tuple #[.slice none 0 0, .int .i64 13]) (by simp [results, Tryz.results45, go_sem]) rfl ?_
        exact ⟨_, by rw [HEX.out], fun _ => rfl, fun T _ h => (by dsimp only at h; rw [HRX.out] at h; cases h), by first | exact HW3.out | exact HW3.out.drew⟩
      | some off =>
        obtain ⟨v3, rfl, ho3⟩ := r2 off hO
        obtain ⟨ao3, co3, rfl, _, _⟩ := own_val ho3
        have HBW3 : Hid (Below W.heap.size W w3) := HBW2.out.trans (hb3.mono HBW2.out.size)
        obtain ⟨hko, hkl⟩ := HLF.out on hA
        obtain ⟨hoo, hol⟩ := HLB.out off hO
        have HL2 : Hid (ArcL w3 (.slice ao2 on.length co2) on) := (ArcL.own HO2.out hko.two).below hb3
        have HL3 : Hid (ArcL w3 (.slice ao3 off.length co3) off) := ArcL.own ho3 hoo.two
        have HRB := hid (HRA.out.2 on off hA hO)
        have HKO := hid hko
        have HSQ := hid (HSQ0.out.below HB3.out)
        have hw3 := HB3.out.size
        clear r1 r2 hO hA hb3 ho3 HO2 hko hoo HRA HLF HLB HC2 HBW2 HB2 HSQ0
        go_wp2_with fail
        go_loopw [15] (fun i wr => ∃ k : Nat, k ≤ on.length ∧ i = .int .i64 k ∧ Hid (∀ j (h : j < on.length), j < k → on[j] ∉ off) ∧ Hid (Below w3.heap.size w3 wr)) (fun i _ => on.length - (intOf i).toNat)
        case atStart => exact ⟨0, Nat.zero_le _, rfl, fun j _ hj => absurd hj (by omega), Below.refl _ _⟩
        case round =>
          obtain ⟨k, hk, rfl, HK, HB⟩ := hrel
          have hbz := HB.out.size
          by_cases hlt : k < on.length
          · obtain ⟨ao, c, e, hl⟩ := HL2.out.below HB.out
            obtain ⟨g, x, y, e2, hg, hxy, x0, y0⟩ := hl k hlt
            cases e
            subst e2
            have HC : Hid (∀ W2, Below wr.heap.size wr W2 → _) := fun W2 h2 => held_any off (.slice ao3 off.length co3) x y W2 ((HL3.out.below HB.out).below h2) (by omega)
            have HCW : Hid (∀ W2, Below wr.heap.size wr W2 → Calls Tryz.prog 91 #[.slice ao3 off.length co3, .int .i64 x, .int .i64 y] W2 fun e w' => e = .returned (.bool (decide ([x, y] ∈ off))) ∧ w'.cell? ⟨g, k * 2, none⟩ = some (.int .i64 x) ∧ w'.cell? ⟨g, k * 2 + 1, none⟩ = some (.int .i64 y) ∧ Hid (Below wr.heap.size wr w')) := by
              intro W2 h2
              refine (HC.out W2 h2).mono ?_
              rintro e4 w4 ⟨rfl, hb4⟩
              have hb : Below wr.heap.size wr w4 := h2.trans (hb4.mono h2.size)
              exact ⟨rfl, (hb.cell (p := ⟨g, k * 2, none⟩) hg).trans x0, (hb.cell (p := ⟨g, k * 2 + 1, none⟩) hg).trans y0, hb⟩
            have ik : (0 : Int) ≤ (k : Int) := by omega
            have jk : (k : Int) < (on.length : Int) := by omega
            generalize hdc : decide ([x, y] ∈ off) = dc at *
            clear HC hl
            cases dc
            · have hno : [x, y] ∉ off := of_decide_eq_false hdc
              have HN : Hid (∀ j (h : j < on.length), j < k + 1 → on[j] ∉ off) := fun j h hj => by
                by_cases e : j = k
                · subst e; rw [hxy]; exact hno
                · exact HK.out j h (by omega)
              clear hdc hno hxy
              go_wp2_with fail
              go_region_held3 (fun w' => w'.cell? ⟨g, k * 2, none⟩ = some (.int .i64 x) ∧ w'.cell? ⟨g, k * 2 + 1, none⟩ = some (.int .i64 y)) (go_keep) (first | (go_at_call 91; refine (HCW.out _ (by first | exact Below.refl _ _ | exact (Below.refl _ _).drew)).mono ?_; rintro e4 w4 ⟨rfl, z0, z1, HB4⟩))
              have HB5 : Hid (Below w3.heap.size w3 w4) := HB.out.trans (HB4.out.mono hbz)
              clear z0 z1 x0 y0 HCW HB4
              go_wp2
              go_roundw
              case rel => exact ⟨k + 1, by omega, by go_num, HN, by first | exact HB5 | exact HB5.out.drew⟩
              case measure => simp [intOf]; omega
            · have hyes : [x, y] ∈ off := of_decide_eq_true hdc
              have HRX := hid (HRB.out.1 ⟨on[k], List.getElem_mem _, by rw [hxy]; exact hyes⟩)
              have HEX := hid (HEN.out HRX.out)
              clear hdc hyes hxy
              go_wp2_with fail
              go_region_held3 (fun w' => w'.cell? ⟨g, k * 2, none⟩ = some (.int .i64 x) ∧ w'.cell? ⟨g, k * 2 + 1, none⟩ = some (.int .i64 y)) (go_keep) (first | (go_at_call 91; refine (HCW.out _ (by first | exact Below.refl _ _ | exact (Below.refl _ _).drew)).mono ?_; rintro e4 w4 ⟨rfl, z0, z1, HB4⟩))
              have HB5 : Hid (Below w.heap.size w w4) := HW3.out.trans ((HB.out.trans (HB4.out.mono hbz)).mono HW3.out.size)
              clear z0 z1 x0 y0 HCW HB4
              go_wp2_with fail
              refine bodyPost_ret (v := .tuple #[.slice none 0 0, .int .i64 13]) (by simp [results, Tryz.results45, go_sem]) rfl ?_
              exact ⟨_, by rw [HEX.out], fun _ => rfl, fun T _ h => (by dsimp only at h; rw [HRX.out] at h; cases h), by first | exact HB5.out | exact HB5.out.drew⟩
          · have hdis : ∀ q ∈ on, q ∉ off := fun q hq => by
              obtain ⟨j, hj, e⟩ := List.mem_iff_getElem.1 hq
              rw [← e]; exact HK.out j hj (by omega)
            have HRX := hid (HRB.out.2 hdis)
            have HEX := hid (HEZ.out _ HRX.out)
            have HCC := hid (rcells_any r (siteD r) on off (.slice ao2 on.length co2) (.slice ao3 off.length co3) (.slice aos r.stops.length caps) (.slice aor r.roads.length capr) (.slice afw (r.stops.length + 1 : Nat) cfw) vn (r.stops.length + vn) wr hns HVN.out (by have := HVN.out; omega) (by have := HVN.out; omega) rfl (HL2.out.below HB.out) (HL3.out.below HB.out) (by omega) (by omega) (HSQ.out.below HB.out) ⟨_, _, rfl⟩ ⟨_, _, _, rfl⟩)
            have HCE : Hid (∀ i j, cellS r.stops.length (tabS on off) (siteD r) (lineN r.stops.length i) (lineN r.stops.length j) = cellD on off (siteD r) (lineN r.stops.length i) (lineN r.stops.length j)) := fun i j => cell_same HKO.out hdis (siteD r) _ _
            obtain ⟨hbl, d0, d1, d2, d3, d4, d5, d6, d7⟩ := HKK.out wr (HBW3.out.trans (HB.out.mono HBW3.out.size))
            clear hdis
            unfold ground at HCC
            go_wp2_with fail
            refine HCC.out.mono ?_
            rintro e4 w4 ⟨v4, us, rfl, hus, hg4, hb4⟩
            have HB5 : Hid (Below w.heap.size w w4) := HW3.out.trans ((HB.out.trans (hb4.mono hbz)).mono HW3.out.size)
            have HG4 : Hid (GridR w4 w.heap.size w4.heap.size v4 (r.stops.length + vn) (fun i j => cellS r.stops.length (tabS on off) (siteD r) (lineN r.stops.length i) (lineN r.stops.length j)) us) := by
              show GridR _ _ _ _ _ _ _
              rw [show (fun i j => cellS r.stops.length (tabS on off) (siteD r) (lineN r.stops.length i) (lineN r.stops.length j)) = fun i j => cellD on off (siteD r) (lineN r.stops.length i) (lineN r.stops.length j) from funext fun i => funext fun j => HCE.out i j]
              exact hg4.base (by have := HW3.out.size; omega)
            have HUS := hid hus
            clear hg4 hb4 HCC hus d0 d1 d2 d3 d4 d5 d6 d7
            go_wp2_with fail
            refine bodyPost_ret (v := .tuple #[v4, .int .i64 0]) (by simp [results, Tryz.results45, go_sem]) rfl ?_
            exact ⟨_, by rw [HEX.out], fun h => absurd HEX.out h, fun T' _ h => (by dsimp only at h ⊢; rw [HRX.out] at h; cases h; rw [HVN.out]; exact ⟨us, HUS.out, HG4.out⟩), HB5.out⟩
  · have hne : (er != 0) = true := by simp [h0]
    have HE : Hid (cellsE (r, nat, er) f.data.toList b.data.toList = er) := by show _ = _; unfold cellsE; dsimp only; rw [if_pos h0]
    have HNE := hid h0
    clear hok hs h0
    go_enter Tryz.func45, Tryz.ntmps45
    go_wp2_with fail
    refine (HCO.out _).mono ?_
    rintro e1 w1 ⟨vs, vr, vw, rfl, hos, hor, hnw, _, hb1⟩
    dsimp only at hos hor hnw
    obtain rfl := hnw HNE.out
    obtain ⟨aos, caps, hv1, _, _⟩ := own_val hos
    obtain ⟨aor, capr, hv2, _, _⟩ := own_val hor
    subst hv1 hv2
    have HB1 : Hid (Below w.heap.size w w1) := by first | exact hb1 | exact (below1 w _).trans (hb1.mono (by simp))
    clear hos hor hb1 HCO hnw
    unfold ground
    go_wp2_with fail
    refine bodyPost_ret (v := .tuple #[.slice none 0 0, .int .i64 er]) (by simp [results, Tryz.results45, go_sem]) rfl ?_
    exact ⟨_, by rw [HE.out], fun _ => rfl, fun T h => absurd h HNE.out, by first | exact HB1.out.alloc HB1.out.size _ | exact HB1.out⟩
end Go.Proofs.YtebinaopncclgaaGreatDoor
