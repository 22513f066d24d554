/-
  Contract of rings.Segs.
-/
import Derived.Test.YtpjaefcmaiimlaaRLoopsAll
set_option linter.unusedVariables false
set_option linter.unusedSimpArgs false
set_option linter.deprecated false
namespace Go.Proofs.Ytpjaefcmaiimlaa
open Go.RowKit

/-- a ring's segments -/
def ringSegs (R : List Int) : List Pt := (List.range R.length).map fun i : Nat => ⟨R.getD i 0, R.getD ((i + 1) % R.length) 0⟩
def segsF (L : List (List Int)) : List Pt := L.flatMap ringSegs
theorem ringSegs_len (R : List Int) : (ringSegs R).length = R.length := by simp [ringSegs]
theorem segsF_snoc (L : List (List Int)) {m : Nat} (h : m < L.length) : segsF (L.take (m + 1)) = segsF (L.take m) ++ ringSegs L[m] := by
  unfold segsF
  rw [List.take_succ_eq_append_getElem h, List.flatMap_append]
  simp only [List.flatMap_cons, List.flatMap_nil, List.append_nil]
theorem ringSegs_snoc (R : List Int) {i : Nat} (h : i < R.length) : (ringSegs R).take (i + 1) = (ringSegs R).take i ++ [⟨R.getD i 0, R.getD ((i + 1) % R.length) 0⟩] := by
  rw [List.take_succ_eq_append_getElem (by rw [ringSegs_len]; exact h)]
  simp [ringSegs]
def total (L : List (List Int)) : Nat := (L.map List.length).sum
theorem segsF_len : ∀ L : List (List Int), (segsF L).length = total L
  | [] => rfl
  | R :: L => by
    have := segsF_len L
    simp only [segsF, total, List.flatMap_cons, List.length_append, ringSegs_len, List.map_cons, List.sum_cons] at this ⊢
    omega
theorem total_take (L : List (List Int)) {m : Nat} (h : m < L.length) : total (L.take m) + L[m].length ≤ total L := by
  have e : total L = total (L.take m) + total (L.drop m) := by
    unfold total
    rw [← List.sum_append, ← List.map_append, List.take_append_drop]
  rw [e, List.drop_eq_getElem_cons h]
  have e2 : total (L[m] :: L.drop (m + 1)) = L[m].length + total (L.drop (m + 1)) := by simp only [total, List.map_cons, List.sum_cons]
  omega
end Go.Proofs.Ytpjaefcmaiimlaa
