/-
  Proved: for every two points and every two numbers of 16 bits the law WithinBox returns true, and its arguments read as they did. No condition.
-/
import Derived.Test.YtkidphekfnmhhaaWBox
import Derived.Test.YtkidphekfnmhhaaOpen8
import Derived.Test.YtkidphekfnmhhaaKnown3
namespace Go.Proofs.Ytkidphekfnmhhaa.withinBox
open Go.ChangeShapes Go.WideShapes Go.ChangeAt Go.RowKit

theorem u16_nat {n : Int} (h : (Lit.int .u16 n).wf = true) : ∃ m : Nat, m < 65536 ∧ n = (m : Int) := by
  have := bounds_u16 h
  exact ⟨n.toNat, by omega, by omega⟩
theorem own : ownKnob Try.prog.godebug = none := by kernel_rfl

end Go.Proofs.Ytkidphekfnmhhaa.withinBox
