/-
  What '==' says of two [4]uint64 and of two Wides; math/bits.Add64 and Sub64, which the model runs itself.
-/
import Derived.Test.YtdpbmkfgolemjaaDoorRows
import Derived.Test.YtdpbmkfgolemjaaDoorPlain
import Derived.WalkKit
import Derived.WalkSpells
import Derived.WalkLawsBesides
import Derived.Lib.Hide
import Derived.Shelf.Spec.BitsCarry
import Derived.Deep.RegionHeld3
import Derived.Deep.DrawnRows
set_option linter.unusedVariables false
set_option linter.unusedSimpArgs false
set_option linter.deprecated false
namespace Go.Proofs.YtdpbmkfgolemjaaDoor
open Go.RowKit

end Go.Proofs.YtdpbmkfgolemjaaDoor

/-
  Contracts of wide's small functions: addLimbs, subLimbs, signed, Sign, Neg, Of.
-/
namespace Go.Proofs.YtdpbmkfgolemjaaDoor
open Go.RowKit

/-- addLimbs' answer: a sum of four limbs, and what is carried out -/
def AddP (A B : Int) (w : World) (e : Ending) (w' : World) : Prop :=
  ∃ s0 s1 s2 s3 co : Int, In4 s0 s1 s2 s3 ∧ Hid ((co = 0 ∨ co = 1) ∧ V4 s0 s1 s2 s3 + M256 * co = A + B) ∧ e = .returned (.tuple #[(.agg #[.int .u64 s0, .int .u64 s1, .int .u64 s2, .int .u64 s3]), .int .u64 co]) ∧ Below w.heap.size w w'
def SubP (A B : Int) (w : World) (e : Ending) (w' : World) : Prop :=
  ∃ s0 s1 s2 s3 co : Int, In4 s0 s1 s2 s3 ∧ Hid ((co = 0 ∨ co = 1) ∧ V4 s0 s1 s2 s3 + B = A + M256 * co) ∧ e = .returned (.tuple #[(.agg #[.int .u64 s0, .int .u64 s1, .int .u64 s2, .int .u64 s3]), .int .u64 co]) ∧ Below w.heap.size w w'

/-- signed's answer -/
def SignedP (m : Bool) (a b c d : Int) (w : World) (e : Ending) (w' : World) : Prop :=
  ∃ m' : Bool, Hid (m' = (m && decide (V4 a b c d ≠ 0))) ∧ e = .returned (.agg #[.bool m', .int .u64 a, .int .u64 b, .int .u64 c, .int .u64 d]) ∧ Below w.heap.size w w'

/-- the sign of a Wide's number -/
def sgn (m : Bool) (n : Int) : Int := if n = 0 then 0 else if m then -1 else 1
/-- a Wide's number -/
def WV (m : Bool) (a b c d : Int) : Int := if m then - V4 a b c d else V4 a b c d

def IntP (n : Int) (w : World) (e : Ending) (w' : World) : Prop := e = .returned (.int .i64 n) ∧ Below w.heap.size w w'

end Go.Proofs.YtdpbmkfgolemjaaDoor

/-
  Plain facts on Wides' numbers.
-/
namespace Go.Proofs.YtdpbmkfgolemjaaDoor
open Go.RowKit

/-- a Wide without a nought below nought -/
def Norm (m : Bool) (a b c d : Int) : Prop := m = true → V4 a b c d ≠ 0
/-- what signed makes: the number m n, without a nought below nought -/
theorem norm_of {m m' : Bool} {a b c d : Int} (h : m' = (m && decide (V4 a b c d ≠ 0))) : WV m' a b c d = (if m then - V4 a b c d else V4 a b c d) ∧ Norm m' a b c d := by
  subst h
  unfold WV Norm
  cases m <;> simp
  omega

theorem wv_eq (m : Bool) (a b c d : Int) : WV m a b c d = if m then - V4 a b c d else V4 a b c d := rfl
theorem wv_bounds {m : Bool} {a b c d : Int} (h : In4 a b c d) : -M256 < WV m a b c d ∧ WV m a b c d < M256 := by
  have := v4_bounds h
  unfold WV; split <;> omega
theorem wv_zero {m : Bool} {a b c d : Int} : WV m a b c d = 0 ↔ V4 a b c d = 0 := by
  unfold WV; split <;> omega
/-- two Wides of one number, both without a nought below nought, are one -/
theorem wv_inj {m n : Bool} {a b c d x y z u : Int} (h : In4 a b c d) (h' : In4 x y z u) (k : Norm m a b c d) (k' : Norm n x y z u) (e : WV m a b c d = WV n x y z u) : m = n ∧ a = x ∧ b = y ∧ c = z ∧ d = u := by
  have b1 := v4_bounds h
  have b2 := v4_bounds h'
  unfold Norm at k k'
  have hm : m = n ∧ V4 a b c d = V4 x y z u := by
    cases m <;> cases n <;> simp [WV] at e k k' ⊢ <;> omega
  exact ⟨hm.1, v4_inj h h' hm.2⟩
theorem wv_ex (n : Int) (h0 : -M256 < n) (h1 : n < M256) : ∃ (m : Bool) (a b c d : Int), In4 a b c d ∧ WV m a b c d = n ∧ Norm m a b c d := by
  by_cases hn : n < 0
  · obtain ⟨a, b, c, d, hi, hv⟩ := v4_ex (-n) (by omega) (by omega)
    exact ⟨true, a, b, c, d, hi, by unfold WV; simp; omega, fun _ => by omega⟩
  · obtain ⟨a, b, c, d, hi, hv⟩ := v4_ex n (by omega) (by omega)
    exact ⟨false, a, b, c, d, hi, by unfold WV; simp; omega, fun h => by cases h⟩

theorem wide_ok {n : Int} {m m' : Bool} {a b c d : Int} (hs : In4 a b c d) (hm : m' = (m && decide (V4 a b c d ≠ 0))) (e : (if m then - V4 a b c d else V4 a b c d) = n) : WV m' a b c d = n ∧ Norm m' a b c d ∧ -M256 < n ∧ n < M256 := by
  have q := norm_of hm
  have b := wv_bounds (m := m') hs
  rw [e] at q
  rw [q.1] at b
  exact ⟨q.1, q.2, b.1, b.2⟩
theorem same_ok {m : Bool} {S A B : Int} (h : S + M256 * 0 = A + B) : (if m then -S else S) = (if m then -A else A) + (if m then -B else B) := by
  cases m <;> simp <;> omega
theorem same_no {m : Bool} {S A B : Int} (h0 : 0 ≤ S) (h : S + M256 * 1 = A + B) : (if m then -A else A) + (if m then -B else B) ≤ -M256 ∨ M256 ≤ (if m then -A else A) + (if m then -B else B) := by
  cases m <;> simp <;> omega
theorem other_ok {m n : Bool} (hmn : m = !n) {S A B : Int} (h : S + B = A + M256 * 0) : (if m then -S else S) = (if m then -A else A) + (if n then -B else B) := by
  subst hmn; cases n <;> simp <;> omega
theorem other_no {m n : Bool} (hmn : m = !n) {S T A B k : Int} (hS : 0 ≤ S ∧ S < M256) (hT : 0 ≤ T ∧ T < M256) (_hA : 0 ≤ A ∧ A < M256) (_hB : 0 ≤ B ∧ B < M256) (h : S + B = A + M256 * 1) (hk : k = 0 ∨ k = 1) (h2 : T + A = B + M256 * k) : (if n then -T else T) = (if m then -A else A) + (if n then -B else B) := by
  have : k = 0 := by
    rcases hk with rfl | rfl
    · rfl
    · unfold M256 at *; omega
  subst this
  subst hmn; cases n <;> simp <;> omega

end Go.Proofs.YtdpbmkfgolemjaaDoor
