/-
  Contracts: strings.CutPrefix, wide.isDecimal, wide.Parse at a text of digits.
-/
import Derived.Test.YtpockemjfbaheaaTen
import Derived.Test.YtpockemjfbaheaaFold
import Derived.Deep.DeepCutAuto
import Derived.Lib.OthersKept
namespace Go.Proofs.Ytpockemjfbaheaa
open Go.RowKit

/-- s is the text of a number without a sign and without a needless 0 in front -/
structure Dec (s : ByteArray) : Prop where
  pos : 0 < s.size
  small : s.size ≤ 1000
  lead : ∀ h : 0 < s.size, (s[0]'h).toNat = 48 → s.size = 1
  dig : ∀ (i : Nat) (h : i < s.size), 48 ≤ (s[i]'h).toNat ∧ (s[i]'h).toNat ≤ 57

theorem toList_ne {s : ByteArray} (h : 0 < s.size) : s.toList.isEmpty = false := by
  rw [ByteArray.toList_eq]
  rcases hl : s.data.toList with _ | ⟨x, l⟩
  · have : s.size = 0 := by rw [← ByteArray.size_data, ← Array.length_toList, hl]; rfl
    omega
  · rfl
theorem extract_first {s : ByteArray} (h : 0 < s.size) : (s.extract 0 1).toList = [s[0]'h] := by
  rw [ByteArray.toList_eq]
  have : (s.extract 0 1).data = s.data.extract 0 1 := by simp
  rw [this]
  apply List.ext_getElem
  · simp; omega
  · intro i h1 h2
    have : i = 0 := by simp at h2; omega
    subst this
    simp; rfl

end Go.Proofs.Ytpockemjfbaheaa
