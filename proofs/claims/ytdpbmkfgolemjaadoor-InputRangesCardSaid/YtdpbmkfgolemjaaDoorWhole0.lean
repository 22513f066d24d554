/-
  What walks over words in memory want.
-/
import Derived.Test.YtdpbmkfgolemjaaDoorWholeMath
import Derived.Test.YtdpbmkfgolemjaaDoorTCuts
import Derived.Test.YtdpbmkfgolemjaaDoorVars
set_option linter.unusedVariables false
set_option linter.unusedSimpArgs false
set_option linter.deprecated false
namespace Go.Proofs.YtdpbmkfgolemjaaDoor
open Go.RowKit

theorem tokCells_at {W : World} {gt ot : Nat} {ts : List (Nat × ByteArray)} (h : TokCells W (some ⟨gt, ot, none⟩) ts) {i : Nat} (hi : i < ts.length) {a : Nat} {t : ByteArray} (e : ts[i] = (a, t)) :
    W.cell? ⟨gt, ot + i * 2, none⟩ = some (.int .i64 (a : Int)) ∧ W.cell? ⟨gt, ot + i * 2 + 1, none⟩ = some (.string t) := by
  obtain ⟨g, o, e1, h1, h2⟩ := h i hi
  injection e1 with e1
  injection e1 with e2 e3
  subst e2 e3
  rw [e] at h1 h2
  exact ⟨h1, h2⟩
theorem bytes_at {W : World} {g o : Nat} {s : ByteArray} (h : BytesIn W (some ⟨g, o, none⟩) s) {i : Nat} (hi : i < s.size) {c : Nat} (e : (s[i]'hi).toNat = c) : W.cell? ⟨g, o + i, none⟩ = some (.int .u8 (c : Int)) := by
  obtain ⟨g', o', e1, h1⟩ := h i hi
  injection e1 with e1
  injection e1 with e2 e3
  subst e2 e3
  rw [e] at h1
  exact h1
theorem wnum {i : Nat} (hi : i ≤ 10000) : wrap64 (i : Int) = (i : Int) ∧ IntKind.i64.wrap (i : Int) = (i : Int) ∧ wrap64 ((i : Int) + 1) = (i : Int) + 1 ∧ IntKind.i64.wrap ((i : Int) + 1) = (i : Int) + 1 :=
  ⟨by unfold wrap64; omega, IntWalk.i64_in _ (by omega), by unfold wrap64; omega, IntWalk.i64_in _ (by omega)⟩
theorem wsum {a n : Nat} (h : a + n ≤ 10000) : wrap64 ((a : Int) + (n : Int)) = (a : Int) + (n : Int) ∧ IntKind.i64.wrap ((a : Int) + (n : Int)) = (a : Int) + (n : Int) :=
  ⟨by unfold wrap64; omega, IntWalk.i64_in _ (by omega)⟩

end Go.Proofs.YtdpbmkfgolemjaaDoor
