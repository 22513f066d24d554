/-
  The walk of the law MeetMoved.
-/
import Derived.Test.YtpjaefcmaiimlaaGreatMeetAll
import Derived.Test.YtpjaefcmaiimlaaGreatGeoMath
set_option linter.unusedVariables false
set_option linter.unusedSimpArgs false
set_option linter.deprecated false
namespace Go.Proofs.YtpjaefcmaiimlaaGreat
open Go.RowKit

theorem fit_b {p : Pt} (h : fitB p = true) : -4294967296 ≤ p.x ∧ p.x ≤ 4294967296 ∧ -4294967296 ≤ p.y ∧ p.y ≤ 4294967296 := fitB_iff.1 h
theorem wr {x : Int} (h : -9223372036854775808 ≤ x ∧ x ≤ 9223372036854775807) : IntKind.i64.wrap x = x := IntWalk.i64_in _ h

end Go.Proofs.YtpjaefcmaiimlaaGreat
