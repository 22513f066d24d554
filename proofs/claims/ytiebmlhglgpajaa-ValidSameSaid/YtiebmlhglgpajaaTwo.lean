/-
  Contract of wide.addTwo: a sum of two Wides, or ErrRange.
-/
import Derived.Test.YtiebmlhglgpajaaTwoMath
namespace Go.Proofs.Ytiebmlhglgpajaa
open Go.RowKit

/-- a Wide of the number n, and OK; or the zero Wide and ErrRange, where n does not fit -/
def WideOk (n : Int) (m : Bool) (a b c d er : Int) : Prop :=
  (er = 0 ∧ WV m a b c d = n ∧ Norm m a b c d ∧ -M256 < n ∧ n < M256) ∨ (er = 10 ∧ (m = false ∧ a = 0 ∧ b = 0 ∧ c = 0 ∧ d = 0) ∧ (n ≤ -M256 ∨ M256 ≤ n))
def WideP (n : Int) (w : World) (e : Ending) (w' : World) : Prop :=
  ∃ (m : Bool) (a b c d er : Int), In4 a b c d ∧ Hid (WideOk n m a b c d er) ∧ e = .returned (.tuple #[(.agg #[.bool m, .int .u64 a, .int .u64 b, .int .u64 c, .int .u64 d]), .int .i64 er]) ∧ Below w.heap.size w w'
theorem wideP_ok {n : Int} {m : Bool} {a b c d : Int} {w w' : World} (h : In4 a b c d) (k : WV m a b c d = n ∧ Norm m a b c d ∧ -M256 < n ∧ n < M256) (hb : Below w.heap.size w w') : WideP n w (.returned (.tuple #[(.agg #[.bool m, .int .u64 a, .int .u64 b, .int .u64 c, .int .u64 d]), .int .i64 0])) w' :=
  ⟨m, a, b, c, d, 0, h, Or.inl ⟨rfl, k⟩, rfl, hb⟩
theorem wideP_no {n : Int} {w w' : World} (k : n ≤ -M256 ∨ M256 ≤ n) (hb : Below w.heap.size w w') : WideP n w (.returned (.tuple #[(.agg #[.bool false, .int .u64 0, .int .u64 0, .int .u64 0, .int .u64 0]), .int .i64 10])) w' :=
  ⟨false, 0, 0, 0, 0, 10, in4_zero, Or.inr ⟨rfl, ⟨rfl, rfl, rfl, rfl, rfl⟩, k⟩, rfl, hb⟩

end Go.Proofs.Ytiebmlhglgpajaa
