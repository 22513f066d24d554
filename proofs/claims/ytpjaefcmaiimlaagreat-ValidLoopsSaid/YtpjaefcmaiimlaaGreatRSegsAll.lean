/-
  Contract of rings.Segs.
-/
import Derived.Test.YtpjaefcmaiimlaaGreatRLoopsAll
set_option linter.unusedVariables false
set_option linter.unusedSimpArgs false
set_option linter.deprecated false
namespace Go.Proofs.YtpjaefcmaiimlaaGreat
open Go.RowKit

/-- a ring's segments -/
def ringSegs (R:List Int):List Pt:=(List.range R.length).map fun i:Nat=>⟨R.getD i 0,R.getD ((i + 1) % R.length) 0⟩
theorem ringSegs_len (R:List Int):(ringSegs R).length=R.length:=by simp [ringSegs]
end Go.Proofs.YtpjaefcmaiimlaaGreat

/-
  Contract of ref.SameInts.
-/
namespace Go.Proofs.YtpjaefcmaiimlaaGreat
open Go.RowKit

end Go.Proofs.YtpjaefcmaiimlaaGreat

/-
  Contract of the law's same.
-/
namespace Go.Proofs.YtpjaefcmaiimlaaGreat
open Go.RowKit

end Go.Proofs.YtpjaefcmaiimlaaGreat
