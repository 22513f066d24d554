/-
  Contracts of the document's side: trim.
-/
import Derived.Test.YtiebmlhglgpajaaBase
import Derived.Deep.QuietTactic
import Derived.BigQuiet
namespace Go.Proofs.Ytiebmlhglgpajaa
open Go.RowKit

/-- n is where the digits end, without noughts behind -/
def TrimAt (ds : List Int) (n : Nat) : Prop :=
  n ≤ ds.length ∧ (∀ j, n ≤ j → j < ds.length → ds.getD j 0 = 0) ∧ (n = 0 ∨ ds.getD (n - 1) 0 ≠ 0)

def TrimP (m : Bool) (v : Option Addr) (c : Nat) (ds : List Int) (w : World) (e : Ending) (w' : World) : Prop :=
  ∃ n : Nat, TrimAt ds n ∧ e = .returned (.agg #[.bool (m && decide (0 < n)), .slice v n c]) ∧ Below w.heap.size w w'

end Go.Proofs.Ytiebmlhglgpajaa
