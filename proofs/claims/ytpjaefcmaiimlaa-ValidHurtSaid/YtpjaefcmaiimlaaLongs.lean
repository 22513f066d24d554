/-
  Numbers of 128 bits in two's complement, and Wides, by the number that they say.
-/
import Derived.Test.YtpjaefcmaiimlaaGeoMath
import Derived.Test.YtpjaefcmaiimlaaLows
import Derived.Test.YtpjaefcmaiimlaaQuots
import Derived.Deep.RegionHeld3
import Derived.Test.YtpjaefcmaiimlaaVars
set_option linter.unusedVariables false
set_option linter.unusedSimpArgs false
set_option linter.deprecated false
namespace Go.Proofs.Ytpjaefcmaiimlaa
open Go.RowKit

def LH (z : Int) : Int := z / 18446744073709551616 % 18446744073709551616
def LL (z : Int) : Int := z % 18446744073709551616
def B127 (z : Int) : Prop := -170141183460469231731687303715884105728 ≤ z ∧ z < 170141183460469231731687303715884105728
theorem lh_in (z : Int) : In1 (LH z) := by unfold In1 LH; omega
theorem ll_in (z : Int) : In1 (LL z) := by unfold In1 LL; omega
/-- the number of 64 bits, with its sign -/
theorem lh_of {z h l : Int} (hh : In1 h) (hl : In1 l) (e : (h * 18446744073709551616 + l - z) % 340282366920938463463374607431768211456 = 0) : h = LH z ∧ l = LL z := by
  unfold In1 at hh hl; unfold LH LL; omega
theorem u64_of (x : Int) : IntKind.u64.wrap x = x % 18446744073709551616 := by rw [IntKind.wrap_u64]
theorem ll_small {x : Int} (h0 : 0 ≤ x) (h1 : x < 18446744073709551616) : LL x = x := by unfold LL; omega

/-- |x| is at most A -/
def Ab (x A : Int) : Prop := -A ≤ x ∧ x ≤ A
theorem Ab.mul {x y A B : Int} (hx : Ab x A) (hy : Ab y B) : Ab (x * y) (A * B) := by
  unfold Ab at *
  have hA : 0 ≤ A := by omega
  have hB : 0 ≤ B := by omega
  have h : (x * y).natAbs ≤ (A * B).natAbs := by
    rw [Int.natAbs_mul, Int.natAbs_mul]
    exact Nat.mul_le_mul (by omega) (by omega)
  have := Int.mul_nonneg hA hB
  omega
theorem Ab.add {x y A B : Int} (hx : Ab x A) (hy : Ab y B) : Ab (x + y) (A + B) := by unfold Ab at *; omega
theorem Ab.sub {x y A B : Int} (hx : Ab x A) (hy : Ab y B) : Ab (x - y) (A + B) := by unfold Ab at *; omega
theorem Ab.le {x A B : Int} (hx : Ab x A) (h : A ≤ B) : Ab x B := by unfold Ab at *; omega
theorem Ab.b127 {x A : Int} (hx : Ab x A) (h : A < 170141183460469231731687303715884105728) : B127 x := by unfold Ab at hx; unfold B127; omega

def R64 (x : Int) : Prop := -9223372036854775808 ≤ x ∧ x ≤ 9223372036854775807
theorem Ab.r64 {x A : Int} (h : Ab x A) (hA : A ≤ 9223372036854775807) : R64 x := by unfold Ab at h; unfold R64; omega

/-- a Wide's sign and limbs, by its number -/
def QM (z : Int) : Bool := decide (z < 0)
def Q0 (z : Int) : Int := z.natAbs % 18446744073709551616
def Q1 (z : Int) : Int := z.natAbs / 18446744073709551616 % 18446744073709551616
def Q2 (z : Int) : Int := z.natAbs / 340282366920938463463374607431768211456 % 18446744073709551616
def Q3 (z : Int) : Int := z.natAbs / 6277101735386680763835789423207666416102355444464034512896 % 18446744073709551616
theorem q_in (z : Int) : In4 (Q0 z) (Q1 z) (Q2 z) (Q3 z) := by unfold In4 In1 Q0 Q1 Q2 Q3; omega
theorem q_abs {z : Int} (h : -M256 < z ∧ z < M256) : V4 (Q0 z) (Q1 z) (Q2 z) (Q3 z) = z.natAbs := by unfold M256 at h; unfold V4 Q0 Q1 Q2 Q3; omega
theorem q_val {z : Int} (h : -M256 < z ∧ z < M256) : WV (QM z) (Q0 z) (Q1 z) (Q2 z) (Q3 z) = z := by
  unfold WV
  rw [q_abs h]
  unfold QM
  by_cases h0 : z < 0
  · simp [h0]; omega
  · simp [h0]; omega
theorem q_norm {z : Int} (h : -M256 < z ∧ z < M256) : Norm (QM z) (Q0 z) (Q1 z) (Q2 z) (Q3 z) := by
  unfold Norm
  rw [q_abs h]
  unfold QM
  intro e
  simp at e
  omega
theorem q_of {m : Bool} {a b c d z : Int} (hA : In4 a b c d) (hN : Norm m a b c d) (h : WV m a b c d = z) : m = QM z ∧ a = Q0 z ∧ b = Q1 z ∧ c = Q2 z ∧ d = Q3 z := by
  have hb := wv_bounds (m := m) hA
  rw [h] at hb
  exact wv_inj hA (q_in z) hN (q_norm hb) (by rw [q_val hb, h])
end Go.Proofs.Ytpjaefcmaiimlaa

/-
  Contracts of pred's numbers of 128 bits: times, plus, minus, sign, upper, small, longOf.
-/
namespace Go.Proofs.Ytpjaefcmaiimlaa
open Go.RowKit

theorem time_math {x y h l : Int} (hx : -9223372036854775808 ≤ x ∧ x ≤ 9223372036854775807) (hy : -9223372036854775808 ≤ y ∧ y ≤ 9223372036854775807) (_hh : In1 h) (hl : In1 l) (e : h * 18446744073709551616 + l = (x % 18446744073709551616) * (y % 18446744073709551616))
    (s t : Int) (hs : s = if x < 0 then y else 0) (ht : t = if y < 0 then x else 0) : (h - s - t) % 18446744073709551616 = LH (x * y) ∧ l = LL (x * y) := by
  have e2 : ∃ k : Int, (x % 18446744073709551616) * (y % 18446744073709551616) = x * y + 18446744073709551616 * (s + t) + 340282366920938463463374607431768211456 * k := by
    subst hs ht
    by_cases h1 : x < 0 <;> by_cases h2 : y < 0
    · refine ⟨1, ?_⟩
      rw [show x % 18446744073709551616 = x + 18446744073709551616 by omega, show y % 18446744073709551616 = y + 18446744073709551616 by omega, if_pos h1, if_pos h2]
      grind
    · refine ⟨0, ?_⟩
      rw [show x % 18446744073709551616 = x + 18446744073709551616 by omega, show y % 18446744073709551616 = y by omega, if_pos h1, if_neg h2]
      grind
    · refine ⟨0, ?_⟩
      rw [show x % 18446744073709551616 = x by omega, show y % 18446744073709551616 = y + 18446744073709551616 by omega, if_neg h1, if_pos h2]
      grind
    · refine ⟨0, ?_⟩
      rw [show x % 18446744073709551616 = x by omega, show y % 18446744073709551616 = y by omega, if_neg h1, if_neg h2]
      grind
  obtain ⟨k, e2⟩ := e2
  rw [e2] at e
  generalize x * y = p at *
  clear e2 hx hy
  unfold In1 at *
  unfold LH LL
  omega

set_option maxHeartbeats 1000000 in
set_option maxRecDepth 100000 in
theorem times_l (x y : Int) (hx : -9223372036854775808 ≤ x ∧ x ≤ 9223372036854775807) (hy : -9223372036854775808 ≤ y ∧ y ≤ 9223372036854775807) (w : World) :
    Calls Try.prog 175 #[.int .i64 x, .int .i64 y] w (Gives (.agg #[.int .u64 (LH (x * y)), .int .u64 (LL (x * y))]) w) := by
  have ux : IntKind.u64.wrap x = x % 18446744073709551616 := u64_of x
  have uy : IntKind.u64.wrap y = y % 18446744073709551616 := u64_of y
  have HX := hi hx
  have HY := hi hy
  have hxs : (decide (x < 0) = true ∧ x < 0) ∨ (decide (x < 0) = false ∧ ¬ x < 0) := by by_cases h : x < 0 <;> simp [h]
  have hys : (decide (y < 0) = true ∧ y < 0) ∨ (decide (y < 0) = false ∧ ¬ y < 0) := by by_cases h : y < 0 <;> simp [h]
  clear hx hy
  have ix : In1 (x % 18446744073709551616) := by unfold In1; omega
  have iy : In1 (y % 18446744073709551616) := by unfold In1; omega
  have HM := hi (fun W => mul64_c _ _ ix iy W)
  rcases hxs with ⟨bx, sx⟩ | ⟨bx, sx⟩ <;> rcases hys with ⟨b_y, sy⟩ | ⟨b_y, sy⟩
  all_goals
    have SX := hi sx
    have SY := hi sy
    clear sx sy
    go_enter Try.func175, Try.ntmps175
    go_wp2_with (first
      | (go_at_call 145; (with_reducible refine (HM.out _).mono ?_); rintro e w' ⟨h, l, hh, hl, hv, rfl, rfl⟩)
      | go_in)
    obtain ⟨q1, q2⟩ := time_math HX.out HY.out hh hl hv.out (if x < 0 then y else 0) (if y < 0 then x else 0) rfl rfl
    first | rw [if_pos SX.out] at q1 | rw [if_neg (by have := SX.out; omega)] at q1
    first | rw [if_pos SY.out] at q1 | rw [if_neg (by have := SY.out; omega)] at q1
    subst q2
    unfold In1 at hh
    first
      | (have E : IntKind.u64.wrap (IntKind.u64.wrap (h - y % 18446744073709551616) - x % 18446744073709551616) = LH (x * y) := by
           rw [u64_of, u64_of, ← q1]; omega
         refine bodyPost_ret (v := (.agg #[.int .u64 (LH (x * y)), .int .u64 (LL (x * y))])) (by simp [results, Try.results175, go_sem, E]; done) rfl ⟨rfl, by repeat (first | (with_reducible exact Below.refl _ _) | (with_reducible refine bl_alloc ?_ _) | (with_reducible refine Below.drew ?_) | (with_reducible refine below_drewN' ?_ _) | ((with_reducible refine bl_set ?_ ?_ _); (rotate_left; (dsimp only; omega))))⟩)
      | (have E : IntKind.u64.wrap (h - y % 18446744073709551616) = LH (x * y) := by
           rw [u64_of, ← q1]; omega
         refine bodyPost_ret (v := (.agg #[.int .u64 (LH (x * y)), .int .u64 (LL (x * y))])) (by simp [results, Try.results175, go_sem, E]; done) rfl ⟨rfl, by repeat (first | (with_reducible exact Below.refl _ _) | (with_reducible refine bl_alloc ?_ _) | (with_reducible refine Below.drew ?_) | (with_reducible refine below_drewN' ?_ _) | ((with_reducible refine bl_set ?_ ?_ _); (rotate_left; (dsimp only; omega))))⟩)
      | (have E : IntKind.u64.wrap (h - x % 18446744073709551616) = LH (x * y) := by
           rw [u64_of, ← q1]; omega
         refine bodyPost_ret (v := (.agg #[.int .u64 (LH (x * y)), .int .u64 (LL (x * y))])) (by simp [results, Try.results175, go_sem, E]; done) rfl ⟨rfl, by repeat (first | (with_reducible exact Below.refl _ _) | (with_reducible refine bl_alloc ?_ _) | (with_reducible refine Below.drew ?_) | (with_reducible refine below_drewN' ?_ _) | ((with_reducible refine bl_set ?_ ?_ _); (rotate_left; (dsimp only; omega))))⟩)
      | (have E : h = LH (x * y) := by
           rw [← q1]; omega
         refine bodyPost_ret (v := (.agg #[.int .u64 (LH (x * y)), .int .u64 (LL (x * y))])) (by simp [results, Try.results175, go_sem, E]; done) rfl ⟨rfl, by repeat (first | (with_reducible exact Below.refl _ _) | (with_reducible refine bl_alloc ?_ _) | (with_reducible refine Below.drew ?_) | (with_reducible refine below_drewN' ?_ _) | ((with_reducible refine bl_set ?_ ?_ _); (rotate_left; (dsimp only; omega))))⟩)

theorem times_r (x y : Int) (hx : R64 x) (hy : R64 y) (w : World) : Calls Try.prog 175 #[.int .i64 x, .int .i64 y] w (Gives (.agg #[.int .u64 (LH (x * y)), .int .u64 (LL (x * y))]) w) := times_l x y hx hy w
theorem lhl (z : Int) (h : B127 z) : ∃ e : Int, LH z * 18446744073709551616 + LL z = z + 340282366920938463463374607431768211456 * e ∧ (z < 0 → e = 1) ∧ (0 ≤ z → e = 0) := by
  unfold B127 at h
  unfold LH LL
  rcases Int.lt_or_le z 0 with h0 | h0
  · exact ⟨1, by omega, fun _ => rfl, fun h => by omega⟩
  · exact ⟨0, by omega, fun h => by omega, fun _ => rfl⟩

set_option maxHeartbeats 1000000 in
set_option maxRecDepth 100000 in
theorem plus_l (x y : Int) (w : World) : Calls Try.prog 177 #[(.agg #[.int .u64 (LH (x)), .int .u64 (LL (x))]), (.agg #[.int .u64 (LH (y)), .int .u64 (LL (y))])] w (Gives (.agg #[.int .u64 (LH (x + y)), .int .u64 (LL (x + y))]) w) := by
  obtain ⟨s0, c0, g0, h0⟩ := add64_ex (LL x) (LL y) 0 (ll_in _) (ll_in _) (by omega) (by omega)
  obtain ⟨s1, c1, g1, h1⟩ := add64_ex (LH x) (LH y) c0 (lh_in _) (lh_in _) g0.out.2.1 g0.out.2.2.1
  obtain ⟨e1, e2⟩ : s1 = LH (x + y) ∧ s0 = LL (x + y) := by
    have a := g0.out
    have b := g1.out
    unfold In1 LH LL at *
    omega
  subst e1 e2
  go_enter Try.func177, Try.ntmps177
  go_wp2
  refine bodyPost_ret (v := (.agg #[.int .u64 (LH (x + y)), .int .u64 (LL (x + y))])) (by simp [results, Try.results177, go_sem]; done) rfl ⟨rfl, by repeat (first | (with_reducible exact Below.refl _ _) | (with_reducible refine bl_alloc ?_ _) | (with_reducible refine Below.drew ?_) | (with_reducible refine below_drewN' ?_ _) | ((with_reducible refine bl_set ?_ ?_ _); (rotate_left; (dsimp only; omega))))⟩
set_option maxHeartbeats 1000000 in
set_option maxRecDepth 100000 in
theorem minus_l (x y : Int) (w : World) : Calls Try.prog 176 #[(.agg #[.int .u64 (LH (x)), .int .u64 (LL (x))]), (.agg #[.int .u64 (LH (y)), .int .u64 (LL (y))])] w (Gives (.agg #[.int .u64 (LH (x - y)), .int .u64 (LL (x - y))]) w) := by
  obtain ⟨s0, c0, g0, h0⟩ := sub64_ex (LL x) (LL y) 0 (ll_in _) (ll_in _) (by omega) (by omega)
  obtain ⟨s1, c1, g1, h1⟩ := sub64_ex (LH x) (LH y) c0 (lh_in _) (lh_in _) g0.out.2.1 g0.out.2.2.1
  obtain ⟨e1, e2⟩ : s1 = LH (x - y) ∧ s0 = LL (x - y) := by
    have a := g0.out
    have b := g1.out
    unfold In1 LH LL at *
    omega
  subst e1 e2
  go_enter Try.func176, Try.ntmps176
  go_wp2
  refine bodyPost_ret (v := (.agg #[.int .u64 (LH (x - y)), .int .u64 (LL (x - y))])) (by simp [results, Try.results176, go_sem]; done) rfl ⟨rfl, by repeat (first | (with_reducible exact Below.refl _ _) | (with_reducible refine bl_alloc ?_ _) | (with_reducible refine Below.drew ?_) | (with_reducible refine below_drewN' ?_ _) | ((with_reducible refine bl_set ?_ ?_ _); (rotate_left; (dsimp only; omega))))⟩
def Up (l : Int) : Int := if l < 9223372036854775808 then 0 else 18446744073709551615
theorem up_wrap (l : Int) (hl : In1 l) : IntKind.u64.wrap (wrap64 l / 9223372036854775808) = Up l := by
  rw [u64_of]; unfold In1 at hl; unfold wrap64 Up; split <;> omega
set_option maxRecDepth 100000 in
theorem eqLong (a b x y : Int) (w : World) : (Op.equalIn 10000 201 (.agg #[.int .u64 a, .int .u64 b]) (.agg #[.int .u64 x, .int .u64 y])).run Try.prog w = .ok (decide (a = x ∧ b = y)) w := by
  have hS : Try.prog.underlying 201 = some (.struct (Try.prog.fieldsOf 201)) := by kernel_rfl
  have hp : Try.prog.stoodInHeld 201 = false := by kernel_rfl
  have u4 := Try.underlying192
  rw [show (10000 : Nat) = 9999 + 1 from rfl, run_equalIn_agg w 9999 201 _ _ hS hp]
  simp only [Program.fieldsOf, Try.underlying201]
  go_simp
  by_cases h1 : a = x <;> by_cases h2 : b = y <;> simp [h1, h2]
set_option maxHeartbeats 1000000 in
set_option maxRecDepth 100000 in
theorem sign_l (z : Int) (hz : B127 z) (w : World) : Calls Try.prog 155 #[(.agg #[.int .u64 (LH (z)), .int .u64 (LL (z))])] w (Gives (.int .i64 (sg3 z)) w) := by
  rcases sg3_vals z with ⟨h, e⟩ | ⟨h, e⟩ | ⟨h, e⟩
  · have b : decide (wrap64 (LH z) < 0) = true := by
      simp only [decide_eq_true_eq]; unfold B127 at hz; unfold LH wrap64; omega
    rw [e]
    clear hz h e
    go_enter Try.func155, Try.ntmps155
    go_wp2
    go_ret
    exact ⟨rfl, by repeat (first | (with_reducible exact Below.refl _ _) | (with_reducible refine bl_alloc ?_ _) | (with_reducible refine Below.drew ?_) | (with_reducible refine below_drewN' ?_ _) | ((with_reducible refine bl_set ?_ ?_ _); (rotate_left; (dsimp only; omega))))⟩
  · subst h
    rw [e, show LH 0 = 0 from rfl, show LL 0 = 0 from rfl]
    have q := eqLong 0 0 0 0
    clear hz e
    go_enter Try.func155, Try.ntmps155
    go_wp2
    go_ret
    exact ⟨rfl, by repeat (first | (with_reducible exact Below.refl _ _) | (with_reducible refine bl_alloc ?_ _) | (with_reducible refine Below.drew ?_) | (with_reducible refine below_drewN' ?_ _) | ((with_reducible refine bl_set ?_ ?_ _); (rotate_left; (dsimp only; omega))))⟩
  · have b : decide (wrap64 (LH z) < 0) = false := by
      simp only [decide_eq_false_iff_not]; unfold B127 at hz; unfold LH wrap64; omega
    have q : ∀ w : World, (Op.equalIn 10000 201 (.agg #[.int .u64 (LH z), .int .u64 (LL z)]) (.agg #[.int .u64 0, .int .u64 0])).run Try.prog w = .ok false w := by
      intro w
      rw [eqLong]
      have : ¬ (LH z = 0 ∧ LL z = 0) := by unfold B127 at hz; unfold LH LL; omega
      simp only [this, decide_false]
    rw [e]
    clear hz h e
    go_enter Try.func155, Try.ntmps155
    go_wp2
    go_ret
    exact ⟨rfl, by repeat (first | (with_reducible exact Below.refl _ _) | (with_reducible refine bl_alloc ?_ _) | (with_reducible refine Below.drew ?_) | (with_reducible refine below_drewN' ?_ _) | ((with_reducible refine bl_set ?_ ?_ _); (rotate_left; (dsimp only; omega))))⟩
def smB (z : Int) : Bool := LH z == Up (LL z)
def S64 (z : Int) : Int := IntKind.i64.wrap (LL z)
theorem smB_yes {z : Int} (hz : B127 z) (h : smB z = true) : S64 z = z ∧ -9223372036854775808 ≤ z ∧ z ≤ 9223372036854775807 := by
  unfold smB at h
  simp only [beq_iff_eq] at h
  unfold B127 at hz
  unfold LH LL Up at h
  unfold S64 LL
  rw [IntKind.wrap_i64]
  split at h <;> omega
end Go.Proofs.Ytpjaefcmaiimlaa

/-
  Contracts of pred's numbers of 128 bits: wide, longOf.
-/
namespace Go.Proofs.Ytpjaefcmaiimlaa
open Go.RowKit

theorem q_long {z : Int} (hz : B127 z) : Q2 z = 0 ∧ Q3 z = 0 ∧ (z < 0 → QM z = true ∧ Q0 z = LL (-z) ∧ Q1 z = LH (-z)) ∧ (0 ≤ z → QM z = false ∧ Q0 z = LL z ∧ Q1 z = LH z) := by
  unfold B127 at hz
  refine ⟨?_, ?_, fun h => ⟨?_, ?_, ?_⟩, fun h => ⟨?_, ?_, ?_⟩⟩
  · unfold Q2; omega
  · unfold Q3; omega
  · unfold QM; simp [h]
  · unfold Q0 LL; omega
  · unfold Q1 LH; omega
  · unfold QM; simp; omega
  · unfold Q0 LL; omega
  · unfold Q1 LH; omega
theorem minus0_l (z : Int) (w : World) : Calls Try.prog 176 #[.agg #[.int .u64 0, .int .u64 0], (.agg #[.int .u64 (LH (z)), .int .u64 (LL (z))])] w (Gives (.agg #[.int .u64 (LH (-z)), .int .u64 (LL (-z))]) w) := by
  have h := minus_l 0 z w
  rw [show LH 0 = 0 from rfl, show LL 0 = 0 from rfl, Int.zero_sub] at h
  exact h

theorem lh_small {x : Int} (h : -9223372036854775808 ≤ x ∧ x ≤ 9223372036854775807) : Up (IntKind.u64.wrap x) = LH x ∧ IntKind.u64.wrap x = LL x := by
  rw [u64_of]
  unfold Up LH LL
  split <;> omega
end Go.Proofs.Ytpjaefcmaiimlaa
