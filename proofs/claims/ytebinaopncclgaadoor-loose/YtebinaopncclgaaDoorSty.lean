/- Plain mathematics of the seat: the styles of a text. No program in sight. -/
import Derived.Test.YtebinaopncclgaaDoorPlainF
namespace Go.Proofs.YtebinaopncclgaaDoor
open Go.RowKit

structure Sty where
  b0 : Bool
  b1 : Bool
  b2 : Bool
  b3 : Bool
  b4 : Bool
  b5 : Bool
def sp (b : Bool) : List UInt8 := if b = true then [32] else []
def padD (b : Bool) (d : List UInt8) : List UInt8 := if b = true then List.replicate (5 - d.length) 48 ++ d else d
def gap (b : Bool) (i : Nat) : List UInt8 := if b = true ∧ i % 2 = 0 then [32] else []
def wrdG (s : Sty) (i : Nat) (z : Int) : List UInt8 := 32 :: (gap s.b2 i ++ padD s.b1 (decS z.toNat))
def wrdsG (s : Sty) (zs : List Int) : Nat → List UInt8
  | 0 => []
  | m + 1 => wrdsG s zs m ++ wrdG s m (zs.getD m 0)
def bodyG (s : Sty) (k : List UInt8) (zs : List Int) : List UInt8 := sp s.b0 ++ k ++ wrdsG s zs zs.length ++ sp s.b3
def more (s : Sty) : List UInt8 := if s.b4 = true then [32, 10] else []
def lineG (s : Sty) (k : List UInt8) (zs : List Int) : List UInt8 := bodyG s k zs ++ [10] ++ more s
theorem sp_length (b : Bool) : (sp b).length ≤ 1 := by cases b <;> simp [sp]
theorem padD_length (b : Bool) {d : List UInt8} (h : d.length ≤ 6) : (padD b d).length ≤ 6 := by
  cases b <;> simp [padD] <;> omega
theorem gap_length (b : Bool) (i : Nat) : (gap b i).length ≤ 1 := by unfold gap; split <;> simp
theorem wrdG_length (s : Sty) (i : Nat) (z : Int) : (wrdG s i z).length ≤ 8 := by
  have h1 := padD_length s.b1 (decF_length 5 z.toNat); have h2 := gap_length s.b2 i
  have h1' : (padD s.b1 (decS z.toNat)).length ≤ 6 := h1
  unfold wrdG; simp only [List.length_cons, List.length_append]; omega
theorem wrdsG_length (s : Sty) (zs : List Int) (m : Nat) : (wrdsG s zs m).length ≤ 8 * m := by
  induction m with
  | zero => simp [wrdsG]
  | succ m ih => have := wrdG_length s m (zs.getD m 0); unfold wrdsG; simp only [List.length_append]; omega
theorem lineG_length (s : Sty) (k : List UInt8) (zs : List Int) : (lineG s k zs).length ≤ k.length + 8 * zs.length + 5 := by
  have h1 := sp_length s.b0; have h2 := sp_length s.b3; have h3 := wrdsG_length s zs zs.length
  have h4 : (more s).length ≤ 2 := by unfold more; split <;> simp
  unfold lineG bodyG; simp only [List.length_append, List.length_cons, List.length_nil]; omega

/- the lines behind the head: a letter, its numbers -/
def itsK (s : Sty) (r : Rd) : Nat → List (UInt8 × List Int)
  | 0 => []
  | k + 1 => itsK s r k ++ (if s.b5 = true ∧ k < r.roads.length then [(82, r.roads.getD k [])] else []) ++ [(83, r.stops.getD k [])]
def used (s : Sty) (r : Rd) (k : Nat) : Nat := if s.b5 = true then min k r.roads.length else 0
def itemL (s : Sty) (p : UInt8 × List Int) : List UInt8 := lineG s [p.1] p.2
def itemsL (s : Sty) (l : List (UInt8 × List Int)) : List UInt8 := (l.map (itemL s)).flatten
def headG (s : Sty) (r : Rd) : List UInt8 := lineG s [68] [r.vans, r.load, r.close, r.nodes, r.home]
def itsAll (s : Sty) (r : Rd) : List (UInt8 × List Int) := itsK s r r.stops.length ++ (r.roads.drop (used s r r.stops.length)).map fun z => (82, z)
def textG (s : Sty) (r : Rd) : List UInt8 := headG s r ++ itemsL s (itsAll s r)
theorem itemsL_append (s : Sty) (a b : List (UInt8 × List Int)) : itemsL s (a ++ b) = itemsL s a ++ itemsL s b := by simp [itemsL]
theorem itemsL_one (s : Sty) (p : UInt8 × List Int) : itemsL s [p] = itemL s p := by simp [itemsL]
theorem itemsL_nil (s : Sty) : itemsL s [] = [] := rfl

/- style nought is the plain text -/
def Sty0 : Sty := ⟨false, false, false, false, false, false⟩
theorem wrdsG_plain (zs : List Int) (m : Nat) (h : m ≤ zs.length) : wrdsG Sty0 zs m = wrds (zs.take m) := by
  induction m with
  | zero => simp [wrdsG, wrds]
  | succ m ih =>
    have hm : m < zs.length := by omega
    rw [wrds_snoc hm, ← ih (by omega)]
    show wrdsG Sty0 zs m ++ wrdG Sty0 m (zs.getD m 0) = _
    congr 1
    simp [wrdG, wrd, gap, padD, Sty0, hm]
theorem lineG_plain (k : List UInt8) (zs : List Int) : lineG Sty0 k zs = lineL k zs := by
  unfold lineG bodyG lineL
  rw [wrdsG_plain zs _ (Nat.le_refl _), List.take_length]
  simp [sp, more, Sty0]
theorem its_plain (r : Rd) (k : Nat) (h : k ≤ r.stops.length) : itemsL Sty0 (itsK Sty0 r k) = stopsL (r.stops.take k) := by
  induction k with
  | zero => simp [itsK, itemsL, stopsL]
  | succ k ih =>
    have hk : k < r.stops.length := by omega
    rw [stopsL_snoc hk, ← ih (by omega)]
    have e : itsK Sty0 r (k + 1) = itsK Sty0 r k ++ [(83, r.stops.getD k [])] := by simp [itsK, Sty0]
    rw [e, itemsL_append, itemsL_one]
    show _ ++ lineG Sty0 [83] (r.stops.getD k []) = _
    rw [lineG_plain]; simp [hk]
theorem textG_plain (r : Rd) : textG Sty0 r = textL r := by
  unfold textG textL headG headL itsAll
  rw [lineG_plain, itemsL_append, its_plain r _ (Nat.le_refl _), List.take_length]
  have e : used Sty0 r r.stops.length = 0 := by simp [used, Sty0]
  rw [e, List.drop_zero, List.append_assoc]
  congr 2
  unfold itemsL roadsL
  rw [List.map_map]
  congr 1
  apply List.map_congr_left
  intro z _
  exact lineG_plain [82] z
end Go.Proofs.YtebinaopncclgaaDoor
