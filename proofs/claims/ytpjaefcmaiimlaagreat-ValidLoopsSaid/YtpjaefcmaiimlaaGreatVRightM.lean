/-
  Layer 10: what holds of a right input (ValidRight).
-/
import Derived.Test.YtpjaefcmaiimlaaGreatVFirsts
set_option linter.unusedVariables false
set_option linter.unusedSimpArgs false
set_option linter.deprecated false
namespace Go.Proofs.YtpjaefcmaiimlaaGreat

theorem right_iff10 {p l i:List Pt}:rightI p l i=true ↔ ChkOk p l i∧(flTo p l i 8).k=0:=by
 unfold rightI
 rw [Bool.and_eq_true,decide_eq_true_eq,checkB_iff]
end Go.Proofs.YtpjaefcmaiimlaaGreat
