/-
  Contracts: wide.Of, math/bits.Mul64, wide.timesPlus.
-/
import Derived.Test.YtiebmlhglgpajaaLimbs
namespace Go.Proofs.Ytiebmlhglgpajaa
open Go.RowKit

def OfP (n : Int) (w : World) (e : Ending) (w' : World) : Prop :=
  ∃ (m : Bool) (a : Int), In1 a ∧ Hid (m = decide (n < 0) ∧ a = if n < 0 then -n else n) ∧ e = .returned (.agg #[.bool m, .int .u64 a, .int .u64 0, .int .u64 0, .int .u64 0]) ∧ Below w.heap.size w w'

theorem and_low32_mod (z : Int) : bits .and .u64 (z % 18446744073709551616) 4294967295 = z % 18446744073709551616 % 4294967296 := and_low32 _ (by omega) (by omega)

/-- two limbs -/
def TwoP (n : Int) (w : World) (e : Ending) (w' : World) : Prop :=
  ∃ h l : Int, In1 h ∧ In1 l ∧ Hid (h * 18446744073709551616 + l = n) ∧ e = .returned (.tuple #[.int .u64 h, .int .u64 l]) ∧ w = w'
def TwoP' (n : Int) (w : World) (e : Ending) (w' : World) : Prop :=
  ∃ l h : Int, In1 l ∧ In1 h ∧ Hid (h * 18446744073709551616 + l = n) ∧ e = .returned (.tuple #[.int .u64 l, .int .u64 h]) ∧ w = w'

theorem mul_le (x y : Int) (hx : In1 x) (hy : In1 y) : 0 ≤ x * y ∧ x * y ≤ 340282366920938463426481119284349108225 := by
  unfold In1 at hx hy
  refine ⟨Int.mul_nonneg hx.1 hy.1, ?_⟩
  have := Int.mul_le_mul (a := x) (b := y) (c := 18446744073709551615) (d := 18446744073709551615) (by omega) (by omega) hy.1 (by omega)
  simpa using this

set_option maxHeartbeats 1000000 in
set_option maxRecDepth 100000 in
theorem mul64_c (x y : Int) (hx : In1 x) (hy : In1 y) (w : World) :
    Calls Try.prog 109 #[.int .u64 x, .int .u64 y] w (TwoP (x * y) w) := by
  have hp := hid_mk (mul_le x y hx hy)
  unfold In1 at hx hy
  obtain ⟨hx0, hx1⟩ := hx
  obtain ⟨hy0, hy1⟩ := hy
  go_enter Try.func109, Try.ntmps109
  go_wp2
  simp only [IntKind.wrap_u64, and_low32 x hx0 hx1, and_low32 y hy0 hy1, and_low32_mod]
  rw [mul64_arith x y hx0 hx1 hy0 hy1]
  refine bodyPost_ret (v := .tuple #[.int .u64 (x * y / 18446744073709551616), .int .u64 (x * y % 18446744073709551616)]) (by simp [results, Try.results109, go_sem]) rfl ⟨_, _, ?_, ?_, ?_, rfl, rfl⟩
  all_goals have := hp.out
  all_goals generalize x * y = p at *
  all_goals first | (unfold Hid; omega) | (unfold In1; omega)

end Go.Proofs.Ytiebmlhglgpajaa
