/-
  Contracts of the program's Cmp: cmp.Compare of int and uint64, cmpLimbs, Cmp.
-/
import Derived.Test.YtkidphekfnmhhaaRefNum
import Derived.Test.YtkidphekfnmhhaaEnv
namespace Go.Proofs.Ytkidphekfnmhhaa
open Go.RowKit

theorem sgZ_lt {z : Int} (h : z < 0) : sgZ z = -1 := by unfold sgZ; rw [if_pos h]
theorem sgZ_eq {z : Int} (h : z = 0) : sgZ z = 0 := by unfold sgZ; rw [if_neg (by omega), if_pos h]
theorem sgZ_gt {z : Int} (h : 0 < z) : sgZ z = 1 := by unfold sgZ; rw [if_neg (by omega), if_neg (by omega)]

/-- of two rows of limbs the highest one that is not the same tells -/
theorem v4_cmp {a b c d x y z u : Int} (hA : In4 a b c d) (hX : In4 x y z u) (k : Nat) (hk : k < 4) (hne : lim a b c d k ≠ lim x y z u k) (he : ∀ j, k < j → j < 4 → lim a b c d j = lim x y z u j) : sgZ (V4 a b c d - V4 x y z u) = sgZ (lim a b c d k - lim x y z u k) := by
  unfold In4 In1 at hA hX
  have : k = 0 ∨ k = 1 ∨ k = 2 ∨ k = 3 := by omega
  have e1 := he 1
  have e2 := he 2
  have e3 := he 3
  have main : (lim a b c d k < lim x y z u k → V4 a b c d < V4 x y z u) ∧ (lim x y z u k < lim a b c d k → V4 x y z u < V4 a b c d) := by
    unfold V4
    rcases this with rfl | rfl | rfl | rfl <;> simp [lim] at * <;> omega
  rcases Int.lt_trichotomy (lim a b c d k) (lim x y z u k) with h | h | h
  · rw [sgZ_lt (by have := main.1 h; omega), sgZ_lt (by omega)]
  · exact absurd h hne
  · rw [sgZ_gt (by have := main.2 h; omega), sgZ_gt (by omega)]

end Go.Proofs.Ytkidphekfnmhhaa

/-
  Contract of the program's Cmp.
-/
namespace Go.Proofs.Ytkidphekfnmhhaa
open Go.RowKit

theorem sgZ_vals (z : Int) : sgZ z = -1 ∨ sgZ z = 0 ∨ sgZ z = 1 := by
  rcases Int.lt_trichotomy z 0 with h | h | h
  · exact .inl (sgZ_lt h)
  · exact .inr (.inl (sgZ_eq h))
  · exact .inr (.inr (sgZ_gt h))
theorem sgn_sgZ (m : Bool) (a b c d : Int) (hA : In4 a b c d) : sgn m (V4 a b c d) = sgZ (WV m a b c d) := by
  have := v4_bounds hA
  by_cases h : V4 a b c d = 0
  · rw [sgZ_eq (wv_zero.2 h), sgn, if_pos h]
  · cases m
    · rw [sgZ_gt (by simp [WV]; omega), sgn, if_neg h]; rfl
    · rw [sgZ_lt (by simp [WV]; omega), sgn, if_neg h]; rfl

theorem cmp_diff (A B : Int) (h : sgZ A ≠ sgZ B) : sgZ (A - B) = sgZ (sgZ A - sgZ B) := by
  rcases Int.lt_trichotomy A 0 with h1 | h1 | h1 <;> rcases Int.lt_trichotomy B 0 with h2 | h2 | h2
  all_goals first
    | rw [sgZ_lt h1] at h ⊢ | rw [sgZ_eq h1] at h ⊢ | rw [sgZ_gt h1] at h ⊢
  all_goals first
    | rw [sgZ_lt h2] at h ⊢ | rw [sgZ_eq h2] at h ⊢ | rw [sgZ_gt h2] at h ⊢
  all_goals first
    | (exact absurd rfl h)
    | (rw [sgZ_lt (show A - B < 0 by omega)]; rfl)
    | (rw [sgZ_gt (show 0 < A - B by omega)]; rfl)
theorem cmp_same {m n : Bool} {a b c d x y z u : Int} (hA : In4 a b c d) (hX : In4 x y z u) (h : sgZ (WV m a b c d) = sgZ (WV n x y z u)) : sgZ (WV m a b c d - WV n x y z u) = sgZ (WV m a b c d) * sgZ (V4 a b c d - V4 x y z u) := by
  have b1 := v4_bounds hA
  have b2 := v4_bounds hX
  by_cases h1 : V4 a b c d = 0
  · have h2 : V4 x y z u = 0 := by
      rw [sgZ_eq (wv_zero.2 h1)] at h
      apply Classical.byContradiction
      intro h3
      rcases Int.lt_trichotomy (WV n x y z u) 0 with h4 | h4 | h4
      · rw [sgZ_lt h4] at h; omega
      · exact h3 (wv_zero.1 h4)
      · rw [sgZ_gt h4] at h; omega
    rw [wv_zero.2 h1, wv_zero.2 h2, h1, h2]; rfl
  · by_cases h2 : V4 x y z u = 0
    · exfalso
      rw [sgZ_eq (wv_zero.2 h2)] at h
      rcases Int.lt_trichotomy (WV m a b c d) 0 with h4 | h4 | h4
      · rw [sgZ_lt h4] at h; omega
      · exact h1 (wv_zero.1 h4)
      · rw [sgZ_gt h4] at h; omega
    · cases m <;> cases n
      · simp only [WV, Bool.false_eq_true, if_false]
        rw [sgZ_gt (show 0 < V4 a b c d by omega), Int.one_mul]
      · exfalso
        rw [sgZ_gt (by simp [WV]; omega), sgZ_lt (by simp [WV]; omega)] at h; omega
      · exfalso
        rw [sgZ_lt (by simp [WV]; omega), sgZ_gt (by simp [WV]; omega)] at h; omega
      · simp only [WV, if_true]
        rw [sgZ_lt (show -V4 a b c d < 0 by omega)]
        rcases Int.lt_trichotomy (V4 a b c d) (V4 x y z u) with h4 | h4 | h4
        · rw [sgZ_gt (by omega), sgZ_lt (by omega)]; rfl
        · rw [sgZ_eq (by omega), sgZ_eq (by omega)]; rfl
        · rw [sgZ_lt (by omega), sgZ_gt (by omega)]; rfl

end Go.Proofs.Ytkidphekfnmhhaa
