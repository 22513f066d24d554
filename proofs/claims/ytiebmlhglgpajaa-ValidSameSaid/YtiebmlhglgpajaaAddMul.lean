/-
  Contracts: wide.Add, wide.Mul at a slice that is not nil.
-/
import Derived.Test.YtiebmlhglgpajaaFold
namespace Go.Proofs.Ytiebmlhglgpajaa
open Go.RowKit

end Go.Proofs.Ytiebmlhglgpajaa
