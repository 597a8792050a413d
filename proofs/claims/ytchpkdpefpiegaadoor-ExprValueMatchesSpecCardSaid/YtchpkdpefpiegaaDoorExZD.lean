/- Pure facts: numbers put together bit by bit. -/
import Derived.Test.YtchpkdpefpiegaaDoorExZC
namespace Go.Proofs.YtchpkdpefpiegaaDoor.Tok
open Go Go.RowKit

/-- the condition under which bit number i is set -/
def bitC (k : Int) (x y : Nat) : Bool := (k == 12 && x + y == 2) || (k == 13 && x + y == 1) || (k == 14 && decide (1 ≤ x + y))
def natOp (k : Int) (a b : Nat) : Nat := if k = 12 then a &&& b else if k = 13 then a ^^^ b else a ||| b
theorem bit_div (x i : Nat) : x / 2 ^ i % 2 = (x.testBit i).toNat := by
  rw [Nat.toNat_testBit]
theorem natOp_bit {k : Int} (hk : k = 12 ∨ k = 13 ∨ k = 14) (a b i : Nat) : (natOp k a b).testBit i = bitC k (a / 2 ^ i % 2) (b / 2 ^ i % 2) := by
  rw [bit_div, bit_div]
  rcases hk with rfl | rfl | rfl
  · show (a &&& b).testBit i = _
    rw [Nat.testBit_and]
    cases a.testBit i <;> cases b.testBit i <;> rfl
  · show (a ^^^ b).testBit i = _
    rw [Nat.testBit_xor]
    cases a.testBit i <;> cases b.testBit i <;> rfl
  · show (a ||| b).testBit i = _
    rw [Nat.testBit_or]
    cases a.testBit i <;> cases b.testBit i <;> rfl
theorem natOp_step {k : Int} (hk : k = 12 ∨ k = 13 ∨ k = 14) (a b i : Nat) : natOp k a b % 2 ^ (i + 1) = natOp k a b % 2 ^ i + (if bitC k (a / 2 ^ i % 2) (b / 2 ^ i % 2) = true then 2 ^ i else 0) := by
  rw [Nat.mod_pow_succ, bit_div, natOp_bit hk]
  cases bitC k (a / 2 ^ i % 2) (b / 2 ^ i % 2) <;> simp
theorem natOp_lt {k : Int} {a b : Nat} (ha : a < 2 ^ 64) (hb : b < 2 ^ 64) : natOp k a b < 2 ^ 64 := by
  unfold natOp
  split
  · exact Nat.and_lt_two_pow _ hb
  · split
    · exact Nat.xor_lt_two_pow ha hb
    · exact Nat.or_lt_two_pow ha hb
end Go.Proofs.YtchpkdpefpiegaaDoor.Tok
