/- Walks: the arcs of both texts are read. -/
import Derived.Test.YtebinaopncclgaaCMark
namespace Go.Proofs.Ytebinaopncclgaa
open Go.RowKit Go.IntWalk

def readS (n : Nat) (T : Nat → Nat → Int) (f b : List UInt8) : Option (Nat → Nat → Int) := match markS n 1 T f with
  | none => none
  | some T' => markS n 2 T' b

set_option maxRecDepth 100000 in
set_option maxHeartbeats 4000000 in
theorem aread_any (p o : Nat) (r : Rd) (T : Nat → Nat → Int) (ao : Option Addr) (cf n : Nat) (f b : ByteArray) (w : World) (hn : n ≤ 7) (hf : f.size ≤ maxLen) (hb : b.size ≤ maxLen) (h : ArcsAt w p o r T (.slice ao (n + 1 : Nat) cf)) :
    Calls Try.prog 36 #[.pointer (some ⟨p, o, none⟩), .string f, .string b] w fun e w' => (readS n T f.data.toList b.data.toList = none → e = .returned (.int .i64 13)) ∧ (∀ T', readS n T f.data.toList b.data.toList = some T' → e = .returned (.int .i64 0) ∧ ArcsAt w' p o r T' (.slice ao (n + 1 : Nat) cf)) ∧ Below p w w' := by
  have HA := hid h
  have HM1 := hid (mark_any p o r T ao cf n 1 f w hn hf h)
  have HM2 : Hid (∀ T' W, ArcsAt W p o r T' (.slice ao (n + 1 : Nat) cf) → _) := fun T' W hA => mark_any p o r T' ao cf n 2 b W hn hb hA
  clear h
  go_enter Try.func36, Try.ntmps36
  go_wp2_with fail
  refine HM1.out.mono ?_
  rintro e1 w1 ⟨q1, q2, q3⟩
  have HQ3 := hid q3
  cases h1 : markS n 1 T f.data.toList with
  | none =>
    have HR : Hid (readS n T f.data.toList b.data.toList = none) := by show _ = _; unfold readS; rw [h1]
    obtain rfl := q1 h1
    clear q1 q2 q3 h1 HM1 HM2
    go_wp2_with go_in
    go_ret
    exact ⟨fun _ => rfl, fun T' e => (by rw [HR.out] at e; cases e), by first | exact HQ3.out | exact below_drewN HQ3.out _⟩
  | some T1 =>
    have HR : Hid (readS n T f.data.toList b.data.toList = markS n 2 T1 b.data.toList) := by show _ = _; unfold readS; rw [h1]
    obtain ⟨rfl, hA1⟩ := q2 T1 h1
    have HX := hid (HM2.out T1 w1 hA1)
    clear q1 q2 q3 h1 HM1 HM2 hA1
    go_wp2_with fail
    refine HX.out.mono ?_
    rintro e2 w2 ⟨r1, r2, r3⟩
    have HR3 := hid r3
    cases h2 : markS n 2 T1 b.data.toList with
    | none =>
      obtain rfl := r1 h2
      have HS := hid (HR.out.trans h2)
      clear r1 r2 r3 h2
      go_wp2_with go_in
      all_goals
        go_ret
        exact ⟨fun _ => rfl, fun T' e => (by rw [HS.out] at e; cases e), HQ3.out.trans HR3.out⟩
    | some T2 =>
      obtain ⟨rfl, hA2⟩ := r2 T2 h2
      have HS := hid (HR.out.trans h2)
      have HA2 := hid hA2
      clear r1 r2 r3 h2 hA2
      go_wp2_with go_in
      all_goals
        go_ret
        exact ⟨fun e => (by rw [HS.out] at e; cases e), fun T' e => (by rw [HS.out] at e; cases e; exact ⟨rfl, HA2.out⟩), HQ3.out.trans HR3.out⟩
end Go.Proofs.Ytebinaopncclgaa
