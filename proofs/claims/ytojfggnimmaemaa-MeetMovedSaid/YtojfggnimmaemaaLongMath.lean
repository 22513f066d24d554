/-
  Numbers of 128 bits in two's complement, and Wides, by the number that they say.
-/
import Derived.Test.YtojfggnimmaemaaPredMath
import Derived.Test.YtojfggnimmaemaaBase
import Derived.Test.YtojfggnimmaemaaLimbs
import Derived.Test.YtojfggnimmaemaaTwoMath
namespace Go.Proofs.Ytojfggnimmaemaa
open Go.RowKit

def LH (z : Int) : Int := z / 18446744073709551616 % 18446744073709551616
def LL (z : Int) : Int := z % 18446744073709551616
def B127 (z : Int) : Prop := -170141183460469231731687303715884105728 ≤ z ∧ z < 170141183460469231731687303715884105728
theorem lh_in (z : Int) : In1 (LH z) := by unfold In1 LH; omega
theorem ll_in (z : Int) : In1 (LL z) := by unfold In1 LL; omega
/-- the number of 64 bits, with its sign -/
theorem lh_of {z h l : Int} (hh : In1 h) (hl : In1 l) (e : (h * 18446744073709551616 + l - z) % 340282366920938463463374607431768211456 = 0) : h = LH z ∧ l = LL z := by
  unfold In1 at hh hl; unfold LH LL; omega
theorem u64_of (x : Int) : IntKind.u64.wrap x = x % 18446744073709551616 := by rw [IntKind.wrap_u64]
theorem ll_small {x : Int} (h0 : 0 ≤ x) (h1 : x < 18446744073709551616) : LL x = x := by unfold LL; omega

/-- |x| is at most A -/
def Ab (x A : Int) : Prop := -A ≤ x ∧ x ≤ A
theorem Ab.mul {x y A B : Int} (hx : Ab x A) (hy : Ab y B) : Ab (x * y) (A * B) := by
  unfold Ab at *
  have hA : 0 ≤ A := by omega
  have hB : 0 ≤ B := by omega
  have h : (x * y).natAbs ≤ (A * B).natAbs := by
    rw [Int.natAbs_mul, Int.natAbs_mul]
    exact Nat.mul_le_mul (by omega) (by omega)
  have := Int.mul_nonneg hA hB
  omega
theorem Ab.add {x y A B : Int} (hx : Ab x A) (hy : Ab y B) : Ab (x + y) (A + B) := by unfold Ab at *; omega
theorem Ab.sub {x y A B : Int} (hx : Ab x A) (hy : Ab y B) : Ab (x - y) (A + B) := by unfold Ab at *; omega
theorem Ab.le {x A B : Int} (hx : Ab x A) (h : A ≤ B) : Ab x B := by unfold Ab at *; omega
theorem Ab.b127 {x A : Int} (hx : Ab x A) (h : A < 170141183460469231731687303715884105728) : B127 x := by unfold Ab at hx; unfold B127; omega

def R64 (x : Int) : Prop := -9223372036854775808 ≤ x ∧ x ≤ 9223372036854775807
theorem Ab.r64 {x A : Int} (h : Ab x A) (hA : A ≤ 9223372036854775807) : R64 x := by unfold Ab at h; unfold R64; omega

/-- a Wide's sign and limbs, by its number -/
def QM (z : Int) : Bool := decide (z < 0)
def Q0 (z : Int) : Int := z.natAbs % 18446744073709551616
def Q1 (z : Int) : Int := z.natAbs / 18446744073709551616 % 18446744073709551616
def Q2 (z : Int) : Int := z.natAbs / 340282366920938463463374607431768211456 % 18446744073709551616
def Q3 (z : Int) : Int := z.natAbs / 6277101735386680763835789423207666416102355444464034512896 % 18446744073709551616
theorem q_in (z : Int) : In4 (Q0 z) (Q1 z) (Q2 z) (Q3 z) := by unfold In4 In1 Q0 Q1 Q2 Q3; omega
theorem q_abs {z : Int} (h : -M256 < z ∧ z < M256) : V4 (Q0 z) (Q1 z) (Q2 z) (Q3 z) = z.natAbs := by unfold M256 at h; unfold V4 Q0 Q1 Q2 Q3; omega
theorem q_val {z : Int} (h : -M256 < z ∧ z < M256) : WV (QM z) (Q0 z) (Q1 z) (Q2 z) (Q3 z) = z := by
  unfold WV
  rw [q_abs h]
  unfold QM
  by_cases h0 : z < 0
  · simp [h0]; omega
  · simp [h0]; omega
theorem q_norm {z : Int} (h : -M256 < z ∧ z < M256) : Norm (QM z) (Q0 z) (Q1 z) (Q2 z) (Q3 z) := by
  unfold Norm
  rw [q_abs h]
  unfold QM
  intro e
  simp at e
  omega
theorem q_of {m : Bool} {a b c d z : Int} (hA : In4 a b c d) (hN : Norm m a b c d) (h : WV m a b c d = z) : m = QM z ∧ a = Q0 z ∧ b = Q1 z ∧ c = Q2 z ∧ d = Q3 z := by
  have hb := wv_bounds (m := m) hA
  rw [h] at hb
  exact wv_inj hA (q_in z) hN (q_norm hb) (by rw [q_val hb, h])
end Go.Proofs.Ytojfggnimmaemaa
