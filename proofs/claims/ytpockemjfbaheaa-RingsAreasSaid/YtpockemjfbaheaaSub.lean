/-
  Contract of wide.Sub.
-/
import Derived.Test.YtpockemjfbaheaaTwo
namespace Go.Proofs.Ytpockemjfbaheaa
open Go.RowKit
attribute [local go_sem ↓] Go.wp_at_zero Go.wp_at_succ

end Go.Proofs.Ytpockemjfbaheaa
