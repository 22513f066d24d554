/-
  Contract of wide.mulTwo.
-/
import Derived.Test.YtiebmlhglgpajaaTwo
import Derived.Test.YtiebmlhglgpajaaMulL
namespace Go.Proofs.Ytiebmlhglgpajaa
open Go.RowKit
attribute [local go_sem ↓] Go.wp_at_zero Go.wp_at_succ

theorem wv_mul (m n : Bool) (A B : Int) : (if m then -A else A) * (if n then -B else B) = if (m != n) then -(A * B) else A * B := by
  cases m <;> cases n <;> simp [Int.neg_mul, Int.mul_neg]
theorem mul_ok {m n : Bool} {S T A B : Int} (h0 : T = 0) (h : S + M256 * T = A * B) : (if (m != n) then -S else S) = (if m then -A else A) * (if n then -B else B) := by
  subst h0
  rw [wv_mul, ← h, Int.mul_zero, Int.add_zero]
theorem mul_no {m n : Bool} {S T A B : Int} (hS : 0 ≤ S ∧ S < M256) (hT : 0 ≤ T ∧ T < M256) (h0 : T ≠ 0) (h : S + M256 * T = A * B) : (if m then -A else A) * (if n then -B else B) ≤ -M256 ∨ M256 ≤ (if m then -A else A) * (if n then -B else B) := by
  rw [wv_mul, ← h]
  have : M256 ≤ S + M256 * T := by
    have h1 : 1 ≤ T := by omega
    clear h h0
    unfold M256 at *; omega
  split <;> omega

end Go.Proofs.Ytiebmlhglgpajaa
