/-
  Layer 10: an input whose places are moved: the same flaw (plain facts).
-/
import Derived.Test.YtpjaefcmaiimlaaGreatVMaths
import Derived.Test.YtpjaefcmaiimlaaGreatRLoopsAll
import Derived.Test.YtpjaefcmaiimlaaGreatGeoMath
import Derived.Test.YtpjaefcmaiimlaaGreatVMems
set_option linter.unusedVariables false
set_option linter.unusedSimpArgs false
set_option linter.deprecated false
namespace Go.Proofs.YtpjaefcmaiimlaaGreat

end Go.Proofs.YtpjaefcmaiimlaaGreat

/-
  Layer 10: a row whose first k are turned; equal flaws.
-/
namespace Go.Proofs.YtpjaefcmaiimlaaGreat
open Go.RowKit

theorem eqFlG10 (a b c : Int) (w : World) : (Op.equalIn 10000 30 (.agg #[.int .i64 a, .int .i64 b, .int .i64 c]) (.agg #[.int .i64 a, .int .i64 b, .int .i64 c])).run Tryz.prog w = .ok true w := by
  have hS : Tryz.prog.underlying 30 = some (.struct (Tryz.prog.fieldsOf 30)) := by kernel_rfl
  have hp : Tryz.prog.stoodInHeld 30 = false := by kernel_rfl
  have u4 := Tryz.underlying3
  rw [show (10000 : Nat) = 9999 + 1 from rfl, run_equalIn_agg w 9999 30 _ _ hS hp]
  simp only [Program.fieldsOf, Tryz.underlying30]
  go_simp
end Go.Proofs.YtpjaefcmaiimlaaGreat
