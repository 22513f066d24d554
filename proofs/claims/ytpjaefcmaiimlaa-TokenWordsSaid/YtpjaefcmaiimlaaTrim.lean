/-
  Contracts of the document's side: trim.
-/
import Derived.Test.YtpjaefcmaiimlaaLows
import Derived.Deep.QuietTactic
import Derived.BigQuiet
set_option linter.unusedVariables false
set_option linter.unusedSimpArgs false
set_option linter.deprecated false
namespace Go.Proofs.Ytpjaefcmaiimlaa
open Go.RowKit

/-- n is where the digits end, without noughts behind -/
def TrimAt (ds : List Int) (n : Nat) : Prop :=
  n ≤ ds.length ∧ (∀ j, n ≤ j → j < ds.length → ds.getD j 0 = 0) ∧ (n = 0 ∨ ds.getD (n - 1) 0 ≠ 0)

def TrimP (m : Bool) (v : Option Addr) (c : Nat) (ds : List Int) (w : World) (e : Ending) (w' : World) : Prop :=
  ∃ n : Nat, TrimAt ds n ∧ e = .returned (.agg #[.bool (m && decide (0 < n)), .slice v n c]) ∧ Below w.heap.size w w'

end Go.Proofs.Ytpjaefcmaiimlaa
