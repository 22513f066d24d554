/-
  What '==' says of two [4]uint64 and of two Wides; math/bits.Add64 and Sub64, which the model runs itself.
-/
import Derived.Test.YtdoilgddlhadhaaRows
import Derived.Test.YtdoilgddlhadhaaPlain
import Derived.WalkKit
import Derived.WalkSpells
import Derived.WalkLawsBesides
import Derived.Lib.Hide
import Derived.Shelf.Spec.BitsCarry
namespace Go.Proofs.Ytdoilgddlhadhaa
open Go.RowKit

end Go.Proofs.Ytdoilgddlhadhaa
