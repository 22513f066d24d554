/-
  Contract of the document's side: tenth.
-/
import Derived.Test.YtpjaefcmaiimlaaAreas
set_option linter.unusedVariables false
set_option linter.unusedSimpArgs false
set_option linter.deprecated false
namespace Go.Proofs.Ytpjaefcmaiimlaa
open Go.RowKit

/-- ahead of place k - 1 -/
def TenR (w : World) (g n : Nat) (f : Nat → Int) (lv iv : Value) (W : World) : Prop :=
  ∃ (ds : List Int) (left : Int) (k : Nat), lv = .int .i64 left ∧ iv = .int .i64 ((k : Int) - 1) ∧ k ≤ n ∧ 0 ≤ left ∧ left < 10 ∧ Rw g w (.slice (some ⟨g, 0, none⟩) n n) ds W ∧ ds.length = n ∧ Bd ds ∧
    Hid ((∀ j, j < k → ds.getD j 0 = 0) ∧ dval f n - dval f k = 10 * lval ds + left * 65536 ^ k)
theorem ten_step {ds : List Int} {f : Nat → Int} {n i : Nat} {left x : Int} (h : (∀ j, j < i + 1 → ds.getD j 0 = 0) ∧ dval f n - dval f (i + 1) = 10 * lval ds + left * 65536 ^ (i + 1)) (hl : i < ds.length) (hx : x = left * 65536 + f i) :
    (∀ j, j < i → (ds.set i (x / 10)).getD j 0 = 0) ∧ dval f n - dval f i = 10 * lval (ds.set i (x / 10)) + x % 10 * 65536 ^ i := by
  refine ⟨fun j hj => ?_, ?_⟩
  · rw [getD_set _ _ _ _ hl, if_neg (by omega)]; exact h.1 j (by omega)
  · rw [lval_set _ _ _ hl, h.1 i (by omega)]
    have h2 := h.2
    simp only [dval, Int.pow_succ] at h2
    generalize hP : (65536 : Int) ^ i = P at *
    have e1 : left * (P * 65536) = left * 65536 * P := by rw [Int.mul_comm P, Int.mul_assoc]
    have e2 : 10 * ((x / 10 - 0) * P) + x % 10 * P = x * P := by
      rw [Int.sub_zero, ← Int.mul_assoc, ← Int.add_mul]; congr 1; omega
    have e3 : x * P = left * 65536 * P + f i * P := by rw [hx, Int.add_mul]
    rw [Int.mul_add]
    omega
theorem tenB (left y : Int) (h0 : 0 ≤ left) (h1 : left < 10) (h2 : 0 ≤ y) (h3 : y < 65536) : 0 ≤ left * 65536 + y ∧ left * 65536 + y < 655360 := by omega
theorem tenW (left : Int) (h0 : 0 ≤ left) (h1 : left < 10) : wrap64 (left * 65536) = left * 65536 := by unfold wrap64; omega
theorem tenX (x : Int) (h0 : 0 ≤ x) (h1 : x < 655360) : wrap64 x = x := by unfold wrap64; omega
theorem tenQ (x : Int) (h0 : 0 ≤ x) : x.tdiv 10 = x / 10 ∧ x.tmod 10 = x % 10 := ⟨Int.tdiv_eq_ediv_of_nonneg h0, Int.tmod_eq_emod_of_nonneg h0⟩
theorem tenR (x : Int) (h0 : 0 ≤ x) (h1 : x < 655360) : 0 ≤ x / 10 ∧ x / 10 < 65536 ∧ 0 ≤ x % 10 ∧ x % 10 < 10 := by omega
theorem wrapM (i : Nat) (h : i ≤ 101) : wrap64 ((i : Int) - 1) = (i : Int) - 1 := by unfold wrap64; omega

end Go.Proofs.Ytpjaefcmaiimlaa
