/- Walks: Cells. -/
import Derived.Test.YtebinaopncclgaaCSq
import Derived.Deep.WholeRow
namespace Go.Proofs.Ytebinaopncclgaa
open Go.RowKit Go.IntWalk

def arcsZ (x : Int) (vf : Value) : Array Value := #[.int .i64 x, vf] ++ Array.replicate 64 (.int .i64 0)
theorem zero_arcs (W : World) : (zeroValue 80).run Try.prog W = .ok (.agg (arcsZ 0 (.slice none 0 0))) W := by kernel_rfl
theorem arcsZ_ne (x : Int) (vf : Value) : ¬ arcsZ x vf = #[] := by
  intro h; have := congrArg Array.size h; simp [arcsZ] at this

theorem agg_arcs (W : World) : (isAgg 80).run Try.prog W = .ok true W := by kernel_rfl
theorem size_arcs (W : World) : (sizeOf 80).run Try.prog W = .ok 66 W := by kernel_rfl
/- a result that lies in a box, read as a whole -/
theorem results_box {P : Program} {fn : Func} {tmps : Array Value} {a : Nat} {t : TypeId} {p : Addr} {c : Array Value} {n : Nat} {w : World} (hr : fn.results = #[.cell a t]) (ha : tmps.getD a undef = .pointer (some p)) (hg : (isAgg t).run P w = .ok true w) (hz : (sizeOf t).run P w = .ok n w) (hl : (loadCellsFrom p 0 n #[]).run P w = .ok c w) : (results fn tmps).run P w = .ok (.agg c) w := by
  have ha2 : tmps[a]?.getD undef = .pointer (some p) := by simpa using ha
  unfold results; rw [hr]
  simp [loadVar, loadCells, ha2, hg, hz, hl, asAddr]
theorem arcsZ_at {w : World} {x : Int} {vf : Value} {r : Rd} (hx : x = r.vans) : ArcsAt (w.alloc (.cells (arcsZ x vf) 80)) w.heap.size 0 r (fun _ _ => 0) vf := by
  have hb := heap_alloc_new w (.cells (arcsZ x vf) 80)
  refine ⟨⟨_, _, hb⟩, ?_, ?_, fun a b ha hb' => ?_⟩
  · rw [cell_of_row _ _ _ _ _ _ hb, hx]
    unfold arcsZ
    rw [Array.getElem?_append_left (by simp)]; rfl
  · rw [cell_of_row _ _ _ _ _ _ hb]
    unfold arcsZ
    rw [Array.getElem?_append_left (by simp)]; rfl
  · rw [cell_of_row _ _ _ _ _ _ hb]
    unfold arcsZ
    rw [Array.getElem?_append_right (by simp; omega), Array.getElem?_replicate, if_pos (by simp; omega)]

set_option maxRecDepth 100000 in
set_option maxHeartbeats 4000000 in
theorem copen_any (B B' : Nat) (r : Rd) (vs vr : Value) (w : World) (hn : RdOk r) (hs : w.ownsRow B 60 5 vs r.stops.length (ints r.stops.flatten)) (hr : w.ownsRow B' 35 3 vr r.roads.length (ints r.roads.flatten)) :
    Calls Try.prog 35 #[inst r vs vr] w fun e w' => ∃ v, e = .returned (.agg (arcsZ r.vans v)) ∧ GridO w' w.heap.size v (r.stops.length + 1) (fun i j => wayF r (siteN r i) (siteN r j)) ∧ Below w.heap.size w w' := by
  have HCB : Hid (∀ W, Below w.heap.size w W → Calls Try.prog 26 #[inst r vs vr] W fun e w' => ∃ v, e = .returned v ∧ GridO w' W.heap.size v (r.stops.length + 1) (fun i j => wayF r (siteN r i) (siteN r j)) ∧ Below W.heap.size W w') := fun W hW => between_own B B' r vs vr W hn (own_below hs hW) (own_below hr hW)
  have hns := hn.nstops
  obtain ⟨aos, caps, rfl, _, _⟩ := own_val hs
  obtain ⟨aor, capr, rfl, _, _⟩ := own_val hr
  clear hs hr hn
  unfold inst at *
  have hzv := zero_arcs
  have hzn := arcsZ_ne
  go_enter Try.func35, Try.ntmps35
  go_wp2_with fail
  refine (HCB.out _ (below2 w _ _)).mono ?_
  rintro e1 w1 ⟨v1, rfl, hg1, hb1⟩
  have HG1 := hid hg1
  have HW1 : Hid (Below w.heap.size w w1) := (below2 w _ _).trans (hb1.mono (by simp; omega))
  have d0 : w1.cell? ⟨w.heap.size, 0, none⟩ = some (.int .i64 r.vans) := (hb1.cell (by simp; omega)).trans (by simp [go_sem])
  have hz : w.heap.size + 2 ≤ w1.heap.size := by have := hb1.size; simp at this; omega
  have hrow : w1.heap[w.heap.size + 1]? = some (.cells (arcsZ 0 (.slice none 0 0)) 80 (0, 0)) := (hb1.block _ (by simp)).trans (by have h := heap_alloc_new (w.alloc (.cells #[.int .i64 r.vans, .int .i64 r.load, .int .i64 r.close, .int .i64 r.nodes, .int .i64 r.home, .slice aos r.stops.length caps, .slice aor r.roads.length capr] 25)) (.cells (arcsZ 0 (.slice none 0 0)) 80); rw [show (w.alloc (.cells #[.int .i64 r.vans, .int .i64 r.load, .int .i64 r.close, .int .i64 r.nodes, .int .i64 r.home, .slice aos r.stops.length caps, .slice aor r.roads.length capr] 25)).heap.size = w.heap.size + 1 by simp] at h; exact h)
  obtain ⟨g7, _, rfl, _⟩ := hg1
  clear hb1
  have hsl : (((arcsZ 0 (.slice none 0 0)).toList.set 0 (Value.int .i64 r.vans)).set 1 (.slice (some ⟨g7, 0, none⟩) (r.stops.length + 1) (r.stops.length + 1))) = (arcsZ r.vans (.slice (some ⟨g7, 0, none⟩) (r.stops.length + 1) (r.stops.length + 1))).toList := by unfold arcsZ; rw [Array.toList_append, Array.toList_append]; rfl
  obtain ⟨vx, hvx⟩ : ∃ vx, vx = Value.slice (some ⟨g7, 0, none⟩) (r.stops.length + 1) (r.stops.length + 1) := ⟨_, rfl⟩
  have hone : vx.oneCell' = true := by rw [hvx]; rfl
  have hst : Sem.run Try.prog (storeCells ⟨w.heap.size + 1, 0, none⟩ (((arcsZ 0 (.slice none 0 0)).toList.set 0 (Value.int .i64 r.vans)).set 1 (.slice (some ⟨g7, 0, none⟩) (r.stops.length + 1) (r.stops.length + 1)))) w1 = .ok () (w1.setRow (w.heap.size + 1) (arcsZ r.vans (.slice (some ⟨g7, 0, none⟩) (r.stops.length + 1) (r.stops.length + 1)))) := by
    rw [hsl, ← hvx]
    have h := run_storeCells_from (P := Try.prog) (w.heap.size + 1) 80 (arcsZ r.vans vx).toList 0 _ w1 hrow (by rw [Nat.zero_add, Array.length_toList]; unfold arcsZ; rw [Array.size_append, Array.size_append]; rfl) (by
      intro u hu
      simp only [arcsZ, Array.toList_append, List.mem_append, Array.toList_replicate, List.mem_replicate] at hu
      rcases hu with hu | hu
      · simp at hu; rcases hu with rfl | rfl
        · rfl
        · exact hone
      · rw [hu.2]; rfl)
    rw [List.take_zero, List.nil_append, Array.toArray_toList] at h; exact h
  obtain ⟨w2, hw2⟩ : ∃ w2, w2 = w1.setRow (w.heap.size + 1) (arcsZ r.vans (.slice (some ⟨g7, 0, none⟩) (r.stops.length + 1) (r.stops.length + 1))) := ⟨_, rfl⟩
  rw [← hw2] at hst
  have hld : Sem.run Try.prog (loadCellsFrom ⟨w.heap.size + 1, 0, none⟩ 0 66 #[]) w2 = .ok (arcsZ r.vans (.slice (some ⟨g7, 0, none⟩) (r.stops.length + 1) (r.stops.length + 1))) w2 := by
    have h := run_loadCells_list (P := Try.prog) w2 ⟨w.heap.size + 1, 0, none⟩ (arcsZ r.vans (.slice (some ⟨g7, 0, none⟩) (r.stops.length + 1) (r.stops.length + 1))).toList (fun j v hv => by
      have hadd : (⟨w.heap.size + 1, 0, none⟩ : Addr).add j = ⟨w.heap.size + 1, j, none⟩ := by unfold Addr.add; split <;> simp_all
      rw [hadd, hw2, cell_setRow_same _ _ _ _ _ _ _ hrow]
      simpa using hv)
    rw [show (arcsZ r.vans (.slice (some ⟨g7, 0, none⟩) (r.stops.length + 1) (r.stops.length + 1))).toList.length = 66 by rw [Array.length_toList]; unfold arcsZ; rw [Array.size_append, Array.size_replicate]; rfl, Array.toArray_toList] at h
    exact h
  have HB2 : Hid (Below w.heap.size w w2) := by
    show Below _ _ _
    rw [hw2]
    exact HW1.out.trans ⟨rfl, rfl, rfl, by simp, fun k hk => setRow_other w1 _ k _ (by omega)⟩
  have HW2 := hid hw2
  clear hw2 hsl hrow hvx hone
  go_wp2
  refine bodyPost_ret (v := .agg (arcsZ r.vans (.slice (some ⟨g7, 0, none⟩) (r.stops.length + 1) (r.stops.length + 1)))) (results_box (t := 80) Try.results35 ?ra (agg_arcs _) (size_arcs _) hld) rfl ?_
  case ra => simp
  refine ⟨_, rfl, ?_, HB2.out⟩
  obtain ⟨g, G, h1, h2, h3, h4⟩ := HG1.out
  cases h1
  have hlb : ∀ k, w.heap.size + 2 ≤ k → w2.heap[k]? = w1.heap[k]? := fun k hk => by rw [HW2.out]; exact setRow_other w1 _ k _ (by omega)
  refine (show GridO w2 (w.heap.size + 2) _ _ _ from ⟨g7, G, rfl, ?_, fun i hi => ?_, h4⟩).base (by omega)
  · have h2' := own_base (B' := w.heap.size + 2) h2 (by simp)
    rcases h2'.2 with ⟨hh, _⟩ | ⟨g', cap, cur, hv, hb, hg, hrest⟩
    · cases hh
    · exact ⟨h2'.1, .inr ⟨g', cap, cur, hv, hb, (by rw [hlb g' hb]; exact hg), hrest⟩⟩
  · obtain ⟨k1, ci, k2, k3⟩ := h3 i hi
    have k1' : w.heap.size + 2 ≤ G i := by simp at k1; omega
    exact ⟨k1', ci, by rw [hlb _ k1']; exact k2, k3⟩
end Go.Proofs.Ytebinaopncclgaa
namespace Go.Proofs.Ytebinaopncclgaa
open Go.RowKit Go.IntWalk

def cellsE (x : Rd × Nat × Int) (f b : List UInt8) : Int := if x.2.2 ≠ 0 then x.2.2 else if readS x.1.stops.length (fun _ _ => 0) f b = none then 13 else 0
def CellsLeft (w : World) (x : Rd × Nat × Int) (f b : List UInt8) (e : Ending) (w' : World) : Prop :=
  ∃ v, e = .returned (.tuple #[v, .int .i64 (cellsE x f b)]) ∧ (cellsE x f b ≠ 0 → v = .slice none 0 0) ∧
    (∀ T, x.2.2 = 0 → readS x.1.stops.length (fun _ _ => 0) f b = some T → GridO w' w.heap.size v (x.1.stops.length + x.1.vans.toNat) (fun i j => cellS x.1.stops.length T (siteD x.1) (lineN x.1.stops.length i) (lineN x.1.stops.length j))) ∧ Below w.heap.size w w'

set_option maxRecDepth 100000 in
set_option maxHeartbeats 4000000 in
theorem dcells_of (s f b : ByteArray) (w : World) (hs : s.size ≤ maxLen) (hf : f.size ≤ maxLen) (hb : b.size ≤ maxLen) (hok : (parseS s.data.toList).2.2 = 0 → RdOk (parseS s.data.toList).1) : Calls Try.prog 21 #[.string s, .string f, .string b] w (CellsLeft w (parseS s.data.toList) f.data.toList b.data.toList) := by
  have HCP : Hid (∀ W, Calls Try.prog 25 #[.string s] W (Parsed W (parseS s.data.toList))) := fun W => parse_any s W hs
  generalize parseS s.data.toList = x at *
  obtain ⟨r, nat, er⟩ := x
  by_cases h0 : er = 0
  · subst h0
    have HOK := hid (hok rfl)
    have hns := HOK.out.nstops
    have hnr := HOK.out.nroads
    have hvv : 1 ≤ r.vans ∧ r.vans ≤ 3 := by
      have := HOK.out.head
      simp only [headOk, Bool.and_eq_true, fit_iff, decide_eq_true_eq] at this
      omega
    obtain ⟨vn, hvn⟩ : ∃ vn : Nat, r.vans = vn := ⟨r.vans.toNat, by omega⟩
    have HVN := hid hvn
    clear hok hs hvn
    go_enter Try.func21, Try.ntmps21
    go_wp2_with fail
    refine (HCP.out _).mono ?_
    rintro e1 w1 ⟨vs, vr, rfl, hos, hor, hb1⟩
    unfold inst
    obtain ⟨aos, caps, hv1, _, _⟩ := own_val hos
    obtain ⟨aor, capr, hv2, _, _⟩ := own_val hor
    subst hv1 hv2
    have HB1 : Hid (Below w.heap.size w w1) := by first | exact hb1 | exact (below1 w _).trans (hb1.mono (by simp))
    have HS1 := hid hos
    have HR1 := hid hor
    clear hos hor hb1 HCP
    go_wp2_with fail
    refine (copen_any w.heap.size w.heap.size r (.slice aos r.stops.length caps) (.slice aor r.roads.length capr) _ HOK.out (HS1.out.alloc _) (HR1.out.alloc _)).mono ?_
    rintro e2 w2 ⟨v2, rfl, hg2, hb2⟩
    have hb12 : Below w1.heap.size w1 w2 := (below1 w1 _).trans (hb2.mono (by simp))
    have HB2 : Hid (Below w.heap.size w w2) := HB1.out.trans (hb12.mono HB1.out.size)
    have HSQ : Hid (SqR w2 v2 (r.stops.length + 1) (siteD r)) := hg2.sq (by omega)
    obtain ⟨g7, _, rfl, _⟩ := hg2
    have HAW : Hid (ArcsAt (w2.alloc (.cells (arcsZ r.vans (.slice (some ⟨g7, 0, none⟩) (r.stops.length + 1) (r.stops.length + 1))) 80)) w2.heap.size 0 r (fun _ _ => 0) (.slice (some ⟨g7, 0, none⟩) (r.stops.length + 1 : Nat) (r.stops.length + 1))) := arcsZ_at rfl
    obtain ⟨cz, hcz⟩ : ∃ cz, cz = arcsZ r.vans (.slice (some ⟨g7, 0, none⟩) (r.stops.length + 1) (r.stops.length + 1)) := ⟨_, rfl⟩
    have hcs : cz.size = 66 := by rw [hcz]; unfold arcsZ; rw [Array.size_append, Array.size_replicate]; rfl
    have hone : cz.all (·.oneCell') = true := by
      rw [hcz, Array.all_eq_true_iff_forall_mem]
      intro u hu
      simp only [arcsZ, Array.mem_append, Array.mem_replicate] at hu
      rcases hu with hu | hu
      · simp at hu; rcases hu with rfl | rfl <;> rfl
      · rw [hu.2]; rfl
    have hst := run_storeCells_new (P := Try.prog) w2 80 Try.zeroCells80 cz (by rw [hcs]; kernel_rfl) (by rw [hcs]; kernel_rfl) hone
    rw [← hcz] at HAW ⊢
    clear hcz hone hb2 hb12 HS1 HR1 HB1
    go_wp2_with fail
    refine (aread_any w2.heap.size 0 r (fun _ _ => 0) (some ⟨g7, 0, none⟩) (r.stops.length + 1) r.stops.length f b _ hns hf hb HAW.out).mono ?_
    rintro e3 w3 ⟨q1, q2, hb3⟩
    have HB3 : Hid (Below w2.heap.size w2 w3) := (below1 w2 _).trans hb3
    clear hst hcs hb3 HAW
    cases hrd : readS r.stops.length (fun _ _ => 0) f.data.toList b.data.toList with
    | none =>
      obtain rfl := q1 hrd
      have HE : Hid (cellsE (r, nat, 0) f.data.toList b.data.toList = 13) := by show _ = _; unfold cellsE; dsimp only; rw [if_neg (by omega), if_pos hrd]
      have HRD := hid hrd
      clear q1 q2 hrd HSQ
      go_wp2_with fail
      refine bodyPost_ret (v := .tuple #[.slice none 0 0, .int .i64 13]) (by simp [results, Try.results21, go_sem]) rfl ?_
      exact ⟨_, by rw [HE.out], fun _ => rfl, fun T _ h => (by dsimp only at h; rw [HRD.out] at h; cases h), by first | exact HB2.out.trans (HB3.out.mono HB2.out.size) | exact below_drewN (HB2.out.trans (HB3.out.mono HB2.out.size)) _⟩
    | some T =>
      obtain ⟨rfl, hA3⟩ := q2 T hrd
      have HE : Hid (cellsE (r, nat, 0) f.data.toList b.data.toList = 0) := by show _ = _; unfold cellsE; dsimp only; rw [if_neg (by omega), if_neg (by rw [hrd]; simp)]
      have HRD := hid hrd
      have HCS := hid (square_own w2.heap.size 0 r T (siteD r) _ r.stops.length vn (r.stops.length + vn) w3 hns HVN.out (by have := HVN.out; omega) (by have := HVN.out; omega) rfl hA3 (HSQ.out.below HB3.out))
      clear q1 q2 hrd hA3 HSQ
      go_wp2_with fail
      refine HCS.out.mono ?_
      rintro e4 w4 ⟨v4, rfl, hg4, hb4⟩
      have HB4 : Hid (Below w.heap.size w w4) := HB2.out.trans ((HB3.out.trans (hb4.mono HB3.out.size)).mono HB2.out.size)
      have HG4 : Hid (GridO w4 w.heap.size v4 (r.stops.length + vn) (fun i j => cellS r.stops.length T (siteD r) (lineN r.stops.length i) (lineN r.stops.length j))) := hg4.base (by have := HB2.out.size; have := HB3.out.size; omega)
      clear hg4 hb4 HCS
      go_wp2_with fail
      refine bodyPost_ret (v := .tuple #[v4, .int .i64 0]) (by simp [results, Try.results21, go_sem]) rfl ?_
      exact ⟨_, by rw [HE.out], fun h => absurd HE.out h, fun T' _ h => (by dsimp only at h ⊢; rw [HRD.out] at h; cases h; rw [HVN.out]; exact HG4.out), HB4.out⟩
  · have hne : (er != 0) = true := by simp [h0]
    have HE : Hid (cellsE (r, nat, er) f.data.toList b.data.toList = er) := by show _ = _; unfold cellsE; dsimp only; rw [if_pos h0]
    have HNE := hid h0
    clear hok hs h0
    go_enter Try.func21, Try.ntmps21
    go_wp2_with fail
    refine (HCP.out _).mono ?_
    rintro e1 w1 ⟨vs, vr, rfl, hos, hor, hb1⟩
    unfold inst
    obtain ⟨aos, caps, hv1, _, _⟩ := own_val hos
    obtain ⟨aor, capr, hv2, _, _⟩ := own_val hor
    subst hv1 hv2
    have HB1 : Hid (Below w.heap.size w w1) := by first | exact hb1 | exact (below1 w _).trans (hb1.mono (by simp))
    clear hos hor hb1 HCP
    go_wp2_with fail
    refine bodyPost_ret (v := .tuple #[.slice none 0 0, .int .i64 er]) (by simp [results, Try.results21, go_sem]) rfl ?_
    exact ⟨_, by rw [HE.out], fun _ => rfl, fun T h => absurd h HNE.out, by first | exact HB1.out.alloc HB1.out.size _ | exact HB1.out⟩
end Go.Proofs.Ytebinaopncclgaa
