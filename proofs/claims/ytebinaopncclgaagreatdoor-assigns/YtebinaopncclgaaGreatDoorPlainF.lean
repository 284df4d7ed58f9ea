/- Plain mathematics of the seat: the text of an instance. No program in sight. -/
import Derived.Test.YtebinaopncclgaaGreatDoorPlainB
import Derived.Test.YtebinaopncclgaaGreatDoorPlainC
import Derived.Test.YtebinaopncclgaaGreatDoorNums
namespace Go.Proofs.YtebinaopncclgaaGreatDoor
open Go.RowKit

def dg (n : Nat) : UInt8 := UInt8.ofNat (48 + n % 10)
def decF : Nat → Nat → List UInt8
  | 0, n => [dg n]
  | f + 1, n => if n < 10 then [dg n] else decF f (n / 10) ++ [dg n]
def decS (n : Nat) : List UInt8 := decF 5 n
theorem decF_step {f n : Nat} (h : 9 < n) : decF (f + 1) n = decF f (n / 10) ++ [dg n] := by
  show (if n < 10 then _ else _) = _; rw [if_neg (by omega)]
theorem decF_low {f n : Nat} (h : n ≤ 9) : decF f n = [dg n] := by
  cases f with
  | zero => rfl
  | succ f => show (if n < 10 then _ else _) = _; rw [if_pos (by omega)]
theorem decF_length (f n : Nat) : (decF f n).length ≤ f + 1 := by
  induction f generalizing n with
  | zero => simp [decF]
  | succ f ih =>
    show (if n < 10 then _ else _ : List UInt8).length ≤ _
    split
    · simp
    · rw [List.length_append]; have := ih (n / 10); simp; omega
theorem ba_append (a b : List UInt8) : (⟨a.toArray⟩ : ByteArray) ++ ⟨b.toArray⟩ = ⟨(a ++ b).toArray⟩ := by
  apply ByteArray.ext; simp [ByteArray.data_append]
theorem ba_cons (a : UInt8) (b : List UInt8) : (⟨#[a]⟩ : ByteArray) ++ ⟨b.toArray⟩ = ⟨(a :: b).toArray⟩ := ba_append [a] b
end Go.Proofs.YtebinaopncclgaaGreatDoor
namespace Go.Proofs.YtebinaopncclgaaGreatDoor
open Go.RowKit

def wrd (z : Int) : List UInt8 := 32 :: decS z.toNat
def wrds (zs : List Int) : List UInt8 := (zs.map wrd).flatten
def lineL (k : List UInt8) (zs : List Int) : List UInt8 := k ++ wrds zs ++ [10]
theorem wrds_snoc {zs : List Int} {k : Nat} (h : k < zs.length) : wrds (zs.take (k + 1)) = wrds (zs.take k) ++ wrd zs[k] := by
  unfold wrds; rw [List.take_succ_eq_append_getElem h, List.map_append, List.flatten_append]; simp only [List.map_cons, List.map_nil, List.flatten_cons, List.flatten_nil, List.append_nil]
theorem wrd_length (z : Int) : (wrd z).length ≤ 7 := by
  have := decF_length 5 z.toNat; unfold wrd decS; simp; omega
theorem wrds_length (zs : List Int) : (wrds zs).length ≤ 7 * zs.length := by
  unfold wrds
  induction zs with
  | nil => simp
  | cons z t ih => have := wrd_length z; simp only [List.map_cons, List.flatten_cons, List.length_append, List.length_cons]; omega
theorem wrds_take_length (zs : List Int) (k : Nat) : (wrds (zs.take k)).length ≤ 7 * k := by
  have := wrds_length (zs.take k); have := List.length_take_le k zs; omega
end Go.Proofs.YtebinaopncclgaaGreatDoor
namespace Go.Proofs.YtebinaopncclgaaGreatDoor
open Go.RowKit

def headL (r : Rd) : List UInt8 := lineL [68] [r.vans, r.load, r.close, r.nodes, r.home]
def stopsL (ss : List (List Int)) : List UInt8 := (ss.map (lineL [83])).flatten
def roadsL (ss : List (List Int)) : List UInt8 := (ss.map (lineL [82])).flatten
def textL (r : Rd) : List UInt8 := headL r ++ stopsL r.stops ++ roadsL r.roads
def small (z : Int) : Prop := 0 ≤ z ∧ z ≤ 99999
structure RdNice (r : Rd) : Prop where
  nums : ∀ z ∈ [r.vans, r.load, r.close, r.nodes, r.home], small z
  stops : ∀ s ∈ r.stops, s.length = 5 ∧ ∀ z ∈ s, small z
  roads : ∀ s ∈ r.roads, s.length = 3 ∧ ∀ z ∈ s, small z
  nstops : r.stops.length ≤ 7
  nroads : r.roads.length ≤ 40

theorem lineL_length (k : List UInt8) (zs : List Int) : (lineL k zs).length ≤ k.length + 7 * zs.length + 1 := by
  have := wrds_length zs; unfold lineL; simp; omega
theorem stopsL_snoc {ss : List (List Int)} {k : Nat} (h : k < ss.length) : stopsL (ss.take (k + 1)) = stopsL (ss.take k) ++ lineL [83] ss[k] := by
  unfold stopsL; rw [List.take_succ_eq_append_getElem h, List.map_append, List.flatten_append]; simp only [List.map_cons, List.map_nil, List.flatten_cons, List.flatten_nil, List.append_nil]
theorem roadsL_snoc {ss : List (List Int)} {k : Nat} (h : k < ss.length) : roadsL (ss.take (k + 1)) = roadsL (ss.take k) ++ lineL [82] ss[k] := by
  unfold roadsL; rw [List.take_succ_eq_append_getElem h, List.map_append, List.flatten_append]; simp only [List.map_cons, List.map_nil, List.flatten_cons, List.flatten_nil, List.append_nil]
theorem flat_at {ss : List (List Int)} {m : Nat} : (∀ s ∈ ss, s.length = m) → ∀ {k j : Nat} (hk : k < ss.length), j < m → ss.flatten[k * m + j]? = ss[k][j]? := by
  induction ss with
  | nil => intro _ k j hk; simp at hk
  | cons s t ih =>
    intro h k j hk hj
    have hs : s.length = m := h s (by simp)
    cases k with
    | zero => simp only [Nat.zero_mul, Nat.zero_add, List.flatten_cons, List.getElem_cons_zero]; rw [List.getElem?_append_left (by omega)]
    | succ k =>
      simp only [List.flatten_cons, List.getElem_cons_succ]
      rw [List.getElem?_append_right (by rw [hs, Nat.succ_mul]; omega), hs]
      have e : (k + 1) * m + j - m = k * m + j := by rw [Nat.succ_mul]; omega
      rw [e]
      exact ih (fun s hs => h s (by simp [hs])) (by simpa using hk) hj
theorem flat_ints {ss : List (List Int)} {m : Nat} (h : ∀ s ∈ ss, s.length = m) {k j : Nat} (hk : k < ss.length) (hj : j < m) {z : Int} (hz : ss[k][j]? = some z) : (ints ss.flatten)[k * m + j]? = some (.int .i64 z) := by
  unfold ints; rw [List.getElem?_map, flat_at h hk hj, hz]; rfl
theorem five {s : List Int} (h : s.length = 5) : ∃ a b c d e, s = [a, b, c, d, e] := by
  match s, h with
  | [a, b, c, d, e], _ => exact ⟨a, b, c, d, e, rfl⟩
theorem three {s : List Int} (h : s.length = 3) : ∃ a b c, s = [a, b, c] := by
  match s, h with
  | [a, b, c], _ => exact ⟨a, b, c, rfl⟩
end Go.Proofs.YtebinaopncclgaaGreatDoor
