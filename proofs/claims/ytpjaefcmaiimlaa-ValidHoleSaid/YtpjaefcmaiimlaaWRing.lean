/-
  The law's ring.
-/
import Derived.Test.YtpjaefcmaiimlaaWKnown
set_option linter.unusedVariables false
set_option linter.unusedSimpArgs false
set_option linter.deprecated false
namespace Go.Proofs.Ytpjaefcmaiimlaa
open Go.RowKit

/-- a loop's segments -/
def ringL (n : Nat) : List Pt := (List.range n).map fun i : Nat => ⟨(i : Int), (((i + 1) % n : Nat) : Int)⟩
theorem ringL_len (n : Nat) : (ringL n).length = n := by simp [ringL]
theorem ringL_at {n i : Nat} (h : i < n) : pget (ringL n) i = ⟨(i : Int), (((i + 1) % n : Nat) : Int)⟩ := by
  unfold pget ringL
  simp [List.getD, h]
theorem ringL_snoc {n i : Nat} (h : i < n) : (ringL n).take (i + 1) = (ringL n).take i ++ [⟨(i : Int), (((i + 1) % n : Nat) : Int)⟩] := by
  rw [List.take_succ_eq_append_getElem (by rw [ringL_len]; exact h)]
  simp [ringL]
end Go.Proofs.Ytpjaefcmaiimlaa
