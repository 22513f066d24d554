/-
  Contracts: wide.halved, wide.shifted.
-/
import Derived.Test.YtpockemjfbaheaaHalfMath
namespace Go.Proofs.Ytpockemjfbaheaa
open Go.RowKit

def LimbsP (Q : Int → Prop) (w : World) (e : Ending) (w' : World) : Prop :=
  ∃ s0 s1 s2 s3 : Int, In4 s0 s1 s2 s3 ∧ Hid (Q (V4 s0 s1 s2 s3)) ∧ e = .returned (.agg #[.int .u64 s0, .int .u64 s1, .int .u64 s2, .int .u64 s3]) ∧ Below w.heap.size w w'

theorem half_or (c d : Int) (hc : In1 c) (_hd : In1 d) : bits BinOp.or IntKind.u64 (c / 2) (IntKind.u64.wrap (d * 9223372036854775808)) = d % 2 * 9223372036854775808 + c / 2 := by
  unfold In1 at hc
  have e : IntKind.u64.wrap (d * 9223372036854775808) = d % 2 * 9223372036854775808 := by rw [IntKind.wrap_u64]; omega
  rw [e]
  exact orU' 63 _ (d % 2) _ (by rw [show (2 : Int) ^ 63 = 9223372036854775808 from rfl]; omega) (by omega) (by omega) (by rw [show (2 : Int) ^ 63 = 9223372036854775808 from rfl]; omega) (by omega) (by omega)
theorem or_zero (c : Int) (hc : In1 c) : bits BinOp.or IntKind.u64 (c / 2) 0 = c / 2 := by
  unfold In1 at hc
  have := orU' 63 0 0 (c / 2) (by simp) (by omega) (by omega) (by rw [show (2 : Int) ^ 63 = 9223372036854775808 from rfl]; omega) (by omega) (by omega)
  rw [this]; omega

/-- what a shift comes to: the number times 2^n, but for what goes over -/
def ShlP (V : Int) (n : Nat) (v : Int) : Prop := ∃ t : Int, 0 ≤ t ∧ v + M256 * t = V * 2 ^ n

theorem v4_mul (a b c d p : Int) : V4 a b c d * p = a * p + b * p * 18446744073709551616 + c * p * 340282366920938463463374607431768211456 + d * p * 6277101735386680763835789423207666416102355444464034512896 := by
  unfold V4; grind
theorem mul_pow (V : Int) (s r : Nat) (B : Int) (hB : (2 : Int) ^ (64 * s) = B) : V * 2 ^ (64 * s + r) = V * 2 ^ r * B := by
  rw [Int.pow_add, hB]; grind

end Go.Proofs.Ytpockemjfbaheaa
