/-
  Layer 10: an input that is numbered otherwise: a flaw of the same kind (plain facts).
-/
import Derived.Test.YtpjaefcmaiimlaaGreatVMaths
import Derived.Test.YtpjaefcmaiimlaaGreatRLoopsAll
import Derived.Test.YtpjaefcmaiimlaaGreatGeoMath
import Derived.Test.YtpjaefcmaiimlaaGreatRRndMath
set_option linter.unusedVariables false
set_option linter.unusedSimpArgs false
set_option linter.deprecated false
namespace Go.Proofs.YtpjaefcmaiimlaaGreat

/-! ### the numbers -/
/-! ### what is asked of all -/
/-! ### an input numbered otherwise -/
theorem inside_swap10 (a b q:Pt):insideB b a q=insideB a b q:=by
 unfold insideB
 rw [orient_swap,disc_swap]
 congr 1
 exact decide_eq_decide.2 (by omega)
section
variable {p l i:List Pt} {b:Nat}
end
end Go.Proofs.YtpjaefcmaiimlaaGreat
