/-
  What '==' says of two [4]uint64 and of two Wides; math/bits.Add64 and Sub64, which the model runs itself.
-/
import Derived.Test.YtkidphekfnmhhaaRows
import Derived.Test.YtkidphekfnmhhaaPlain
import Derived.WalkKit
import Derived.WalkSpells
import Derived.WalkLawsBesides
import Derived.Lib.Hide
import Derived.Shelf.Spec.BitsCarry
namespace Go.Proofs.Ytkidphekfnmhhaa
open Go.RowKit

theorem add64_ex (x y c : Int) (hx : In1 x) (hy : In1 y) (h0 : 0 ≤ c) (hc : c ≤ 1) :
    ∃ s co : Int, Hid (In1 s ∧ 0 ≤ co ∧ co ≤ 1 ∧ s + 18446744073709551616 * co = x + y + c) ∧ ∀ w : World, (callFunc 92 #[.int .u64 x, .int .u64 y, .int .u64 c]).run Try.prog w = .ok (.value (.tuple #[.int .u64 s, .int .u64 co])) w := by
  unfold In1 at hx hy
  refine ⟨(x + y + c) % 18446744073709551616, (x + y + c) / 18446744073709551616, ?_, fun w => ?_⟩
  · unfold Hid In1; omega
  · rw [run_callFunc_extern Try.func92 (by kernel_rfl) (by kernel_rfl) (by kernel_rfl) (e := add64Entry) (by kernel_rfl), run_add64 x y c (by omega) (by omega) (by omega) (by omega)]
    simp only [Result.andThen]

theorem sub64_ex (x y b : Int) (hx : In1 x) (hy : In1 y) (h0 : 0 ≤ b) (hb : b ≤ 1) :
    ∃ s co : Int, Hid (In1 s ∧ 0 ≤ co ∧ co ≤ 1 ∧ s + y + b = x + 18446744073709551616 * co) ∧ ∀ w : World, (callFunc 93 #[.int .u64 x, .int .u64 y, .int .u64 b]).run Try.prog w = .ok (.value (.tuple #[.int .u64 s, .int .u64 co])) w := by
  unfold In1 at hx hy
  obtain ⟨X, rfl⟩ := Int.eq_ofNat_of_zero_le hx.1
  obtain ⟨Y, rfl⟩ := Int.eq_ofNat_of_zero_le hy.1
  obtain ⟨B, rfl⟩ := Int.eq_ofNat_of_zero_le h0
  refine ⟨(((X + 18446744073709551616 - Y - B) % 18446744073709551616 : Nat) : Int), ((if X < Y + B then 1 else 0 : Nat) : Int), ?_, fun w => ?_⟩
  · unfold Hid In1; split <;> omega
  · rw [run_callFunc_extern Try.func93 (by kernel_rfl) (by kernel_rfl) (by kernel_rfl) (e := sub64Entry) (by kernel_rfl), run_sub64 X Y B (by omega)]
    rfl

set_option maxRecDepth 100000 in
theorem eqL (a b c d x y z u : Int) (w : World) : (Op.equalIn 10000 78 (.agg #[.int .u64 a, .int .u64 b, .int .u64 c, .int .u64 d]) (.agg #[.int .u64 x, .int .u64 y, .int .u64 z, .int .u64 u])).run Try.prog w = .ok (decide (a = x ∧ b = y ∧ c = z ∧ d = u)) w := by
  have u3 := Try.underlying77
  have a3 := Try.isAgg77
  have z3 := Try.sizeOf77
  rw [show (10000 : Nat) = 9999 + 1 from rfl, Op.equalIn]
  simp only [Sem.run_bind, run_underlying Try.underlying78, Result.andThen_ok]
  simp only [Std.Legacy.Range.forIn_eq_forIn_range', Std.Legacy.Range.size, Nat.sub_zero, Nat.add_sub_cancel, Nat.div_one, List.range'_succ, List.range'_zero, List.forIn_cons, List.forIn_nil]
  go_simp
  by_cases h1 : a = x <;> by_cases h2 : b = y <;> by_cases h3 : c = z <;> by_cases h4 : d = u <;> simp [h1, h2, h3, h4]

set_option maxRecDepth 100000 in
theorem eqL' (k : Nat) (hk : k = 9999) (a b c d x y z u : Int) (w : World) : (Op.equalIn k 78 (.agg #[.int .u64 a, .int .u64 b, .int .u64 c, .int .u64 d]) (.agg #[.int .u64 x, .int .u64 y, .int .u64 z, .int .u64 u])).run Try.prog w = .ok (decide (a = x ∧ b = y ∧ c = z ∧ d = u)) w := by
  subst hk
  have u3 := Try.underlying77
  have a3 := Try.isAgg77
  have z3 := Try.sizeOf77
  rw [show (9999 : Nat) = 9998 + 1 from rfl, Op.equalIn]
  simp only [Sem.run_bind, run_underlying Try.underlying78, Result.andThen_ok]
  simp only [Std.Legacy.Range.forIn_eq_forIn_range', Std.Legacy.Range.size, Nat.sub_zero, Nat.add_sub_cancel, Nat.div_one, List.range'_succ, List.range'_zero, List.forIn_cons, List.forIn_nil]
  go_simp
  by_cases h1 : a = x <;> by_cases h2 : b = y <;> by_cases h3 : c = z <;> by_cases h4 : d = u <;> simp [h1, h2, h3, h4]

set_option maxRecDepth 100000 in
theorem eqW (m n : Bool) (a b c d x y z u : Int) (w : World) : (Op.equalIn 10000 80 (.agg #[.bool m, .int .u64 a, .int .u64 b, .int .u64 c, .int .u64 d]) (.agg #[.bool n, .int .u64 x, .int .u64 y, .int .u64 z, .int .u64 u])).run Try.prog w = .ok (decide (m = n ∧ a = x ∧ b = y ∧ c = z ∧ d = u)) w := by
  have hS : Try.prog.underlying 80 = some (.struct (Try.prog.fieldsOf 80)) := by kernel_rfl
  have hp : Try.prog.stoodInHeld 80 = false := by kernel_rfl
  have u4 := Try.underlying4
  have e3 := eqL' 9999 rfl a b c d x y z u
  rw [show (10000 : Nat) = 9999 + 1 from rfl, run_equalIn_agg w 9999 80 _ _ hS hp]
  simp only [Program.fieldsOf, Try.underlying80]
  go_simp
  by_cases h0 : m = n <;> by_cases h1 : a = x <;> by_cases h2 : b = y <;> by_cases h3 : c = z <;> by_cases h4 : d = u <;> simp [h0, h1, h2, h3, h4]
end Go.Proofs.Ytkidphekfnmhhaa
