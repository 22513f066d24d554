/-
  The walk of the law TokenBack.
-/
import Derived.Test.YtdpbmkfgolemjaaDoorTokKnown
set_option linter.unusedVariables false
set_option linter.unusedSimpArgs false
set_option linter.deprecated false
namespace Go.Proofs.YtdpbmkfgolemjaaDoor
open Go.RowKit

theorem nums_append (a b : ByteArray) : nums (a ++ b) = nums a ++ nums b := by simp [nums]
theorem textZ_dig (n : Int) (h0 : -BIG < n) (h1 : n < BIG) : Valid (textZ n) ∧ dv (digOf (textZ n)) = (n.natAbs : Int) ∧ (if (textZ n).head? = some 45 then - dv (digOf (textZ n)) else dv (digOf (textZ n))) = n ∧ textZ n ≠ [] := by
  rcases textZ_cases n h0 h1 with ⟨rfl, e⟩ | ⟨h, e, hk⟩ | ⟨h, e, hk⟩ <;> rw [e]
  · refine ⟨.inl rfl, by decide, by decide, by decide⟩
  · have hh : (digs (K5 + 1) n.toNat).head? ≠ some 45 := fun hh => by
      have := digs_all (K5 + 1) n.toNat 45 (List.mem_of_mem_head? hh)
      omega
    have hd : digOf (digs (K5 + 1) n.toNat) = digs (K5 + 1) n.toNat := by unfold digOf; rw [if_neg hh]
    have hne := digs_ne _ _ (show n.toNat ≠ 0 by omega) hk
    rw [hd, if_neg hh, digs_dv _ _ hk]
    exact ⟨.inr (by rw [hd]; exact ⟨hne, digs_all _ _, digs_head _ _ hk⟩), by omega, by omega, hne⟩
  · have hd : digOf (45 :: digs (K5 + 1) (-n).toNat) = digs (K5 + 1) (-n).toNat := by unfold digOf; rw [List.head?_cons, if_pos (Eq.refl _), List.tail_cons]
    have hne := digs_ne _ _ (show (-n).toNat ≠ 0 by omega) hk
    rw [hd, List.head?_cons, if_pos (Eq.refl _), digs_dv _ _ hk]
    exact ⟨.inr (by rw [hd]; exact ⟨hne, digs_all _ _, digs_head _ _ hk⟩), by omega, by omega, by simp⟩
theorem spec_text {n most v er : Int} (h0 : -BIG < n) (h1 : n < BIG) (h : NumSpec (textZ n) most v er) : ((n.natAbs : Int) ≤ most ∧ v = n ∧ er = 0) ∨ (most < (n.natAbs : Int) ∧ v = 0 ∧ er = 10) := by
  obtain ⟨k1, k2, k3, -⟩ := textZ_dig n h0 h1
  rcases h with ⟨-, -, h⟩ | ⟨h2, h3, -, h4⟩ | ⟨h2, -, h3, h4⟩
  · exact absurd k1 h
  · exact .inr ⟨by rw [← k2]; exact h4, h3, h2⟩
  · exact .inl ⟨by rw [← k2]; exact h3, h4.trans k3, h2⟩
theorem no_zero {l : List Int} (h : l ≠ []) : ¬ Valid (48 :: l) := by
  rintro (h1 | h1)
  · injection h1 with _ h2; exact h h2
  · have hd : digOf (48 :: l) = 48 :: l := by unfold digOf; rw [List.head?_cons, if_neg (by decide)]
    rw [hd] at h1
    exact h1.2.2 48 (by simp) rfl
theorem no_plus (l : List Int) : ¬ Valid (43 :: l) := by
  rintro (h1 | h1)
  · injection h1 with h2; cases h2
  · have hd : digOf (43 :: l) = 43 :: l := by unfold digOf; rw [List.head?_cons, if_neg (by decide)]
    rw [hd] at h1
    have := h1.2.1 43 (by simp)
    omega
theorem no_minus (l : List Int) : ¬ Valid (45 :: 45 :: l) := by
  rintro (h1 | h1)
  · injection h1 with h2; cases h2
  · have hd : digOf (45 :: 45 :: l) = 45 :: l := by unfold digOf; rw [List.head?_cons, if_pos (Eq.refl _), List.tail_cons]
    rw [hd] at h1
    have := h1.2.1 45 (by simp)
    omega

end Go.Proofs.YtdpbmkfgolemjaaDoor
