import Derived.Test.YtebinaopncclgabGreatDoorAPlain
set_option maxRecDepth 100000
set_option maxHeartbeats 8000000
namespace Go.Proofs.YtebinaopncclgabGreatDoor
def zg2(s j:Nat):Nat:=s|||2^j
theorem zuE(s j i:Nat):(zg2 s j).testBit i=(s.testBit i||decide (j=i)):=by unfold zg2;rw[Nat.testBit_or,Nat.testBit_two_pow]
theorem zqI{n s j:Nat}(hs:s<2^n)(hj:j<n):zg2 s j<2^n:=Nat.or_lt_two_pow hs (Nat.pow_lt_pow_right (by omega) hj)
end Go.Proofs.YtebinaopncclgabGreatDoor
