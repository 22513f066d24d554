/-
  Plain facts on Wides' numbers.
-/
import Derived.Test.YtiebmlhglgpajaaLimbs
namespace Go.Proofs.Ytiebmlhglgpajaa
open Go.RowKit

/-- a Wide without a nought below nought -/
def Norm (m : Bool) (a b c d : Int) : Prop := m = true → V4 a b c d ≠ 0
/-- what signed makes: the number m n, without a nought below nought -/
theorem norm_of {m m' : Bool} {a b c d : Int} (h : m' = (m && decide (V4 a b c d ≠ 0))) : WV m' a b c d = (if m then - V4 a b c d else V4 a b c d) ∧ Norm m' a b c d := by
  subst h
  unfold WV Norm
  cases m <;> simp
  omega

theorem wv_eq (m : Bool) (a b c d : Int) : WV m a b c d = if m then - V4 a b c d else V4 a b c d := rfl
theorem wv_bounds {m : Bool} {a b c d : Int} (h : In4 a b c d) : -M256 < WV m a b c d ∧ WV m a b c d < M256 := by
  have := v4_bounds h
  unfold WV; split <;> omega
theorem wv_zero {m : Bool} {a b c d : Int} : WV m a b c d = 0 ↔ V4 a b c d = 0 := by
  unfold WV; split <;> omega
/-- two Wides of one number, both without a nought below nought, are one -/
theorem wv_inj {m n : Bool} {a b c d x y z u : Int} (h : In4 a b c d) (h' : In4 x y z u) (k : Norm m a b c d) (k' : Norm n x y z u) (e : WV m a b c d = WV n x y z u) : m = n ∧ a = x ∧ b = y ∧ c = z ∧ d = u := by
  have b1 := v4_bounds h
  have b2 := v4_bounds h'
  unfold Norm at k k'
  have hm : m = n ∧ V4 a b c d = V4 x y z u := by
    cases m <;> cases n <;> simp [WV] at e k k' ⊢ <;> omega
  exact ⟨hm.1, v4_inj h h' hm.2⟩
theorem wv_ex (n : Int) (h0 : -M256 < n) (h1 : n < M256) : ∃ (m : Bool) (a b c d : Int), In4 a b c d ∧ WV m a b c d = n ∧ Norm m a b c d := by
  by_cases hn : n < 0
  · obtain ⟨a, b, c, d, hi, hv⟩ := v4_ex (-n) (by omega) (by omega)
    exact ⟨true, a, b, c, d, hi, by unfold WV; simp; omega, fun _ => by omega⟩
  · obtain ⟨a, b, c, d, hi, hv⟩ := v4_ex n (by omega) (by omega)
    exact ⟨false, a, b, c, d, hi, by unfold WV; simp; omega, fun h => by cases h⟩

theorem wide_ok {n : Int} {m m' : Bool} {a b c d : Int} (hs : In4 a b c d) (hm : m' = (m && decide (V4 a b c d ≠ 0))) (e : (if m then - V4 a b c d else V4 a b c d) = n) : WV m' a b c d = n ∧ Norm m' a b c d ∧ -M256 < n ∧ n < M256 := by
  have q := norm_of hm
  have b := wv_bounds (m := m') hs
  rw [e] at q
  rw [q.1] at b
  exact ⟨q.1, q.2, b.1, b.2⟩
theorem same_ok {m : Bool} {S A B : Int} (h : S + M256 * 0 = A + B) : (if m then -S else S) = (if m then -A else A) + (if m then -B else B) := by
  cases m <;> simp <;> omega
theorem same_no {m : Bool} {S A B : Int} (h0 : 0 ≤ S) (h : S + M256 * 1 = A + B) : (if m then -A else A) + (if m then -B else B) ≤ -M256 ∨ M256 ≤ (if m then -A else A) + (if m then -B else B) := by
  cases m <;> simp <;> omega
theorem other_ok {m n : Bool} (hmn : m = !n) {S A B : Int} (h : S + B = A + M256 * 0) : (if m then -S else S) = (if m then -A else A) + (if n then -B else B) := by
  subst hmn; cases n <;> simp <;> omega
theorem other_no {m n : Bool} (hmn : m = !n) {S T A B k : Int} (hS : 0 ≤ S ∧ S < M256) (hT : 0 ≤ T ∧ T < M256) (_hA : 0 ≤ A ∧ A < M256) (_hB : 0 ≤ B ∧ B < M256) (h : S + B = A + M256 * 1) (hk : k = 0 ∨ k = 1) (h2 : T + A = B + M256 * k) : (if n then -T else T) = (if m then -A else A) + (if n then -B else B) := by
  have : k = 0 := by
    rcases hk with rfl | rfl
    · rfl
    · unfold M256 at *; omega
  subst this
  subst hmn; cases n <;> simp <;> omega

end Go.Proofs.Ytiebmlhglgpajaa
