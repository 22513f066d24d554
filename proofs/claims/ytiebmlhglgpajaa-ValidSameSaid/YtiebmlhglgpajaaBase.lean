/-
  What '==' says of two [4]uint64 and of two Wides; math/bits.Add64 and Sub64, which the model runs itself.
-/
import Derived.Test.YtiebmlhglgpajaaRows
import Derived.Test.YtiebmlhglgpajaaPlain
import Derived.WalkKit
import Derived.WalkSpells
import Derived.WalkLawsBesides
import Derived.Lib.Hide
import Derived.Shelf.Spec.BitsCarry
namespace Go.Proofs.Ytiebmlhglgpajaa
open Go.RowKit

theorem add64_ex (x y c : Int) (hx : In1 x) (hy : In1 y) (h0 : 0 ≤ c) (hc : c ≤ 1) :
    ∃ s co : Int, Hid (In1 s ∧ 0 ≤ co ∧ co ≤ 1 ∧ s + 18446744073709551616 * co = x + y + c) ∧ ∀ w : World, (callFunc 111 #[.int .u64 x, .int .u64 y, .int .u64 c]).run Try.prog w = .ok (.value (.tuple #[.int .u64 s, .int .u64 co])) w := by
  unfold In1 at hx hy
  refine ⟨(x + y + c) % 18446744073709551616, (x + y + c) / 18446744073709551616, ?_, fun w => ?_⟩
  · unfold Hid In1; omega
  · rw [run_callFunc_extern Try.func111 (by kernel_rfl) (by kernel_rfl) (by kernel_rfl) (e := add64Entry) (by kernel_rfl), run_add64 x y c (by omega) (by omega) (by omega) (by omega)]
    simp only [Result.andThen]

theorem sub64_ex (x y b : Int) (hx : In1 x) (hy : In1 y) (h0 : 0 ≤ b) (hb : b ≤ 1) :
    ∃ s co : Int, Hid (In1 s ∧ 0 ≤ co ∧ co ≤ 1 ∧ s + y + b = x + 18446744073709551616 * co) ∧ ∀ w : World, (callFunc 110 #[.int .u64 x, .int .u64 y, .int .u64 b]).run Try.prog w = .ok (.value (.tuple #[.int .u64 s, .int .u64 co])) w := by
  unfold In1 at hx hy
  obtain ⟨X, rfl⟩ := Int.eq_ofNat_of_zero_le hx.1
  obtain ⟨Y, rfl⟩ := Int.eq_ofNat_of_zero_le hy.1
  obtain ⟨B, rfl⟩ := Int.eq_ofNat_of_zero_le h0
  refine ⟨(((X + 18446744073709551616 - Y - B) % 18446744073709551616 : Nat) : Int), ((if X < Y + B then 1 else 0 : Nat) : Int), ?_, fun w => ?_⟩
  · unfold Hid In1; split <;> omega
  · rw [run_callFunc_extern Try.func110 (by kernel_rfl) (by kernel_rfl) (by kernel_rfl) (e := sub64Entry) (by kernel_rfl), run_sub64 X Y B (by omega)]
    rfl

end Go.Proofs.Ytiebmlhglgpajaa
