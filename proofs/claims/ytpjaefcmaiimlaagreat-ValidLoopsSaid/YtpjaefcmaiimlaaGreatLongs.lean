/-
  Numbers of 128 bits in two's complement, and Wides, by the number that they say.
-/
import Derived.Test.YtpjaefcmaiimlaaGreatGeoMath
import Derived.Test.YtpjaefcmaiimlaaGreatLows
import Derived.Test.YtpjaefcmaiimlaaGreatQuots
import Derived.Deep.RegionHeld3
import Derived.Test.YtpjaefcmaiimlaaGreatVars
set_option linter.unusedVariables false
set_option linter.unusedSimpArgs false
set_option linter.deprecated false
namespace Go.Proofs.YtpjaefcmaiimlaaGreat
open Go.RowKit

def LH (z : Int) : Int := z / 18446744073709551616 % 18446744073709551616
def LL (z : Int) : Int := z % 18446744073709551616
def B127 (z : Int) : Prop := -170141183460469231731687303715884105728 ≤ z ∧ z < 170141183460469231731687303715884105728
theorem lh_in (z : Int) : In1 (LH z) := by unfold In1 LH; omega
theorem ll_in (z : Int) : In1 (LL z) := by unfold In1 LL; omega
theorem u64_of (x : Int) : IntKind.u64.wrap x = x % 18446744073709551616 := by rw [IntKind.wrap_u64]
/-- |x| is at most A -/
def Ab (x A : Int) : Prop := -A ≤ x ∧ x ≤ A
theorem Ab.mul {x y A B : Int} (hx : Ab x A) (hy : Ab y B) : Ab (x * y) (A * B) := by
  unfold Ab at *
  have hA : 0 ≤ A := by omega
  have hB : 0 ≤ B := by omega
  have h : (x * y).natAbs ≤ (A * B).natAbs := by
    rw [Int.natAbs_mul, Int.natAbs_mul]
    exact Nat.mul_le_mul (by omega) (by omega)
  have := Int.mul_nonneg hA hB
  omega
theorem Ab.add {x y A B : Int} (hx : Ab x A) (hy : Ab y B) : Ab (x + y) (A + B) := by unfold Ab at *; omega
theorem Ab.sub {x y A B : Int} (hx : Ab x A) (hy : Ab y B) : Ab (x - y) (A + B) := by unfold Ab at *; omega
theorem Ab.le {x A B : Int} (hx : Ab x A) (h : A ≤ B) : Ab x B := by unfold Ab at *; omega
theorem Ab.b127 {x A : Int} (hx : Ab x A) (h : A < 170141183460469231731687303715884105728) : B127 x := by unfold Ab at hx; unfold B127; omega

def R64 (x : Int) : Prop := -9223372036854775808 ≤ x ∧ x ≤ 9223372036854775807
theorem Ab.r64 {x A : Int} (h : Ab x A) (hA : A ≤ 9223372036854775807) : R64 x := by unfold Ab at h; unfold R64; omega

end Go.Proofs.YtpjaefcmaiimlaaGreat

/-
  Contracts of pred's numbers of 128 bits: times, plus, minus, sign, upper, small, longOf.
-/
namespace Go.Proofs.YtpjaefcmaiimlaaGreat
open Go.RowKit

theorem time_math {x y h l : Int} (hx : -9223372036854775808 ≤ x ∧ x ≤ 9223372036854775807) (hy : -9223372036854775808 ≤ y ∧ y ≤ 9223372036854775807) (_hh : In1 h) (hl : In1 l) (e : h * 18446744073709551616 + l = (x % 18446744073709551616) * (y % 18446744073709551616))
    (s t : Int) (hs : s = if x < 0 then y else 0) (ht : t = if y < 0 then x else 0) : (h - s - t) % 18446744073709551616 = LH (x * y) ∧ l = LL (x * y) := by
  have e2 : ∃ k : Int, (x % 18446744073709551616) * (y % 18446744073709551616) = x * y + 18446744073709551616 * (s + t) + 340282366920938463463374607431768211456 * k := by
    subst hs ht
    by_cases h1 : x < 0 <;> by_cases h2 : y < 0
    · refine ⟨1, ?_⟩
      rw [show x % 18446744073709551616 = x + 18446744073709551616 by omega, show y % 18446744073709551616 = y + 18446744073709551616 by omega, if_pos h1, if_pos h2]
      grind
    · refine ⟨0, ?_⟩
      rw [show x % 18446744073709551616 = x + 18446744073709551616 by omega, show y % 18446744073709551616 = y by omega, if_pos h1, if_neg h2]
      grind
    · refine ⟨0, ?_⟩
      rw [show x % 18446744073709551616 = x by omega, show y % 18446744073709551616 = y + 18446744073709551616 by omega, if_neg h1, if_pos h2]
      grind
    · refine ⟨0, ?_⟩
      rw [show x % 18446744073709551616 = x by omega, show y % 18446744073709551616 = y by omega, if_neg h1, if_neg h2]
      grind
  obtain ⟨k, e2⟩ := e2
  rw [e2] at e
  generalize x * y = p at *
  clear e2 hx hy
  unfold In1 at *
  unfold LH LL
  omega

set_option maxHeartbeats 1000000 in
set_option maxRecDepth 100000 in
theorem times_l (x y : Int) (hx : -9223372036854775808 ≤ x ∧ x ≤ 9223372036854775807) (hy : -9223372036854775808 ≤ y ∧ y ≤ 9223372036854775807) (w : World) :
    Calls Tryz.prog 120 #[.int .i64 x, .int .i64 y] w (Gives (.agg #[.int .u64 (LH (x * y)), .int .u64 (LL (x * y))]) w) := by
  have ux : IntKind.u64.wrap x = x % 18446744073709551616 := u64_of x
  have uy : IntKind.u64.wrap y = y % 18446744073709551616 := u64_of y
  have HX := hi hx
  have HY := hi hy
  have hxs : (decide (x < 0) = true ∧ x < 0) ∨ (decide (x < 0) = false ∧ ¬ x < 0) := by by_cases h : x < 0 <;> simp [h]
  have hys : (decide (y < 0) = true ∧ y < 0) ∨ (decide (y < 0) = false ∧ ¬ y < 0) := by by_cases h : y < 0 <;> simp [h]
  clear hx hy
  have ix : In1 (x % 18446744073709551616) := by unfold In1; omega
  have iy : In1 (y % 18446744073709551616) := by unfold In1; omega
  have HM := hi (fun W => mul64_c _ _ ix iy W)
  rcases hxs with ⟨bx, sx⟩ | ⟨bx, sx⟩ <;> rcases hys with ⟨b_y, sy⟩ | ⟨b_y, sy⟩
  all_goals
    have SX := hi sx
    have SY := hi sy
    clear sx sy
    go_enter Tryz.func120, Tryz.ntmps120
    go_wp2_with (first
      | (go_at_call 125; (with_reducible refine (HM.out _).mono ?_); rintro e w' ⟨h, l, hh, hl, hv, rfl, rfl⟩)
      | go_in)
    obtain ⟨q1, q2⟩ := time_math HX.out HY.out hh hl hv.out (if x < 0 then y else 0) (if y < 0 then x else 0) rfl rfl
    first | rw [if_pos SX.out] at q1 | rw [if_neg (by have := SX.out; omega)] at q1
    first | rw [if_pos SY.out] at q1 | rw [if_neg (by have := SY.out; omega)] at q1
    subst q2
    unfold In1 at hh
    first
      | (have E : IntKind.u64.wrap (IntKind.u64.wrap (h - y % 18446744073709551616) - x % 18446744073709551616) = LH (x * y) := by
           rw [u64_of, u64_of, ← q1]; omega
         refine bodyPost_ret (v := (.agg #[.int .u64 (LH (x * y)), .int .u64 (LL (x * y))])) (by simp [results, Tryz.results120, go_sem, E]; done) rfl ⟨rfl, by repeat (first | (with_reducible exact Below.refl _ _) | (with_reducible refine bl_alloc ?_ _) | (with_reducible refine Below.drew ?_) | (with_reducible refine below_drewN' ?_ _) | ((with_reducible refine bl_set ?_ ?_ _); (rotate_left; (dsimp only; omega))))⟩)
      | (have E : IntKind.u64.wrap (h - y % 18446744073709551616) = LH (x * y) := by
           rw [u64_of, ← q1]; omega
         refine bodyPost_ret (v := (.agg #[.int .u64 (LH (x * y)), .int .u64 (LL (x * y))])) (by simp [results, Tryz.results120, go_sem, E]; done) rfl ⟨rfl, by repeat (first | (with_reducible exact Below.refl _ _) | (with_reducible refine bl_alloc ?_ _) | (with_reducible refine Below.drew ?_) | (with_reducible refine below_drewN' ?_ _) | ((with_reducible refine bl_set ?_ ?_ _); (rotate_left; (dsimp only; omega))))⟩)
      | (have E : IntKind.u64.wrap (h - x % 18446744073709551616) = LH (x * y) := by
           rw [u64_of, ← q1]; omega
         refine bodyPost_ret (v := (.agg #[.int .u64 (LH (x * y)), .int .u64 (LL (x * y))])) (by simp [results, Tryz.results120, go_sem, E]; done) rfl ⟨rfl, by repeat (first | (with_reducible exact Below.refl _ _) | (with_reducible refine bl_alloc ?_ _) | (with_reducible refine Below.drew ?_) | (with_reducible refine below_drewN' ?_ _) | ((with_reducible refine bl_set ?_ ?_ _); (rotate_left; (dsimp only; omega))))⟩)
      | (have E : h = LH (x * y) := by
           rw [← q1]; omega
         refine bodyPost_ret (v := (.agg #[.int .u64 (LH (x * y)), .int .u64 (LL (x * y))])) (by simp [results, Tryz.results120, go_sem, E]; done) rfl ⟨rfl, by repeat (first | (with_reducible exact Below.refl _ _) | (with_reducible refine bl_alloc ?_ _) | (with_reducible refine Below.drew ?_) | (with_reducible refine below_drewN' ?_ _) | ((with_reducible refine bl_set ?_ ?_ _); (rotate_left; (dsimp only; omega))))⟩)

theorem times_r (x y : Int) (hx : R64 x) (hy : R64 y) (w : World) : Calls Tryz.prog 120 #[.int .i64 x, .int .i64 y] w (Gives (.agg #[.int .u64 (LH (x * y)), .int .u64 (LL (x * y))]) w) := times_l x y hx hy w
set_option maxHeartbeats 1000000 in
set_option maxRecDepth 100000 in
theorem plus_l (x y : Int) (w : World) : Calls Tryz.prog 122 #[(.agg #[.int .u64 (LH (x)), .int .u64 (LL (x))]), (.agg #[.int .u64 (LH (y)), .int .u64 (LL (y))])] w (Gives (.agg #[.int .u64 (LH (x + y)), .int .u64 (LL (x + y))]) w) := by
  obtain ⟨s0, c0, g0, h0⟩ := add64_ex (LL x) (LL y) 0 (ll_in _) (ll_in _) (by omega) (by omega)
  obtain ⟨s1, c1, g1, h1⟩ := add64_ex (LH x) (LH y) c0 (lh_in _) (lh_in _) g0.out.2.1 g0.out.2.2.1
  obtain ⟨e1, e2⟩ : s1 = LH (x + y) ∧ s0 = LL (x + y) := by
    have a := g0.out
    have b := g1.out
    unfold In1 LH LL at *
    omega
  subst e1 e2
  go_enter Tryz.func122, Tryz.ntmps122
  go_wp2
  refine bodyPost_ret (v := (.agg #[.int .u64 (LH (x + y)), .int .u64 (LL (x + y))])) (by simp [results, Tryz.results122, go_sem]; done) rfl ⟨rfl, by repeat (first | (with_reducible exact Below.refl _ _) | (with_reducible refine bl_alloc ?_ _) | (with_reducible refine Below.drew ?_) | (with_reducible refine below_drewN' ?_ _) | ((with_reducible refine bl_set ?_ ?_ _); (rotate_left; (dsimp only; omega))))⟩
set_option maxHeartbeats 1000000 in
set_option maxRecDepth 100000 in
theorem minus_l (x y : Int) (w : World) : Calls Tryz.prog 121 #[(.agg #[.int .u64 (LH (x)), .int .u64 (LL (x))]), (.agg #[.int .u64 (LH (y)), .int .u64 (LL (y))])] w (Gives (.agg #[.int .u64 (LH (x - y)), .int .u64 (LL (x - y))]) w) := by
  obtain ⟨s0, c0, g0, h0⟩ := sub64_ex (LL x) (LL y) 0 (ll_in _) (ll_in _) (by omega) (by omega)
  obtain ⟨s1, c1, g1, h1⟩ := sub64_ex (LH x) (LH y) c0 (lh_in _) (lh_in _) g0.out.2.1 g0.out.2.2.1
  obtain ⟨e1, e2⟩ : s1 = LH (x - y) ∧ s0 = LL (x - y) := by
    have a := g0.out
    have b := g1.out
    unfold In1 LH LL at *
    omega
  subst e1 e2
  go_enter Tryz.func121, Tryz.ntmps121
  go_wp2
  refine bodyPost_ret (v := (.agg #[.int .u64 (LH (x - y)), .int .u64 (LL (x - y))])) (by simp [results, Tryz.results121, go_sem]; done) rfl ⟨rfl, by repeat (first | (with_reducible exact Below.refl _ _) | (with_reducible refine bl_alloc ?_ _) | (with_reducible refine Below.drew ?_) | (with_reducible refine below_drewN' ?_ _) | ((with_reducible refine bl_set ?_ ?_ _); (rotate_left; (dsimp only; omega))))⟩
set_option maxRecDepth 100000 in
theorem eqLong (a b x y : Int) (w : World) : (Op.equalIn 10000 134 (.agg #[.int .u64 a, .int .u64 b]) (.agg #[.int .u64 x, .int .u64 y])).run Tryz.prog w = .ok (decide (a = x ∧ b = y)) w := by
  have hS : Tryz.prog.underlying 134 = some (.struct (Tryz.prog.fieldsOf 134)) := by kernel_rfl
  have hp : Tryz.prog.stoodInHeld 134 = false := by kernel_rfl
  have u4 := Tryz.underlying132
  rw [show (10000 : Nat) = 9999 + 1 from rfl, run_equalIn_agg w 9999 134 _ _ hS hp]
  simp only [Program.fieldsOf, Tryz.underlying134]
  go_simp
  by_cases h1 : a = x <;> by_cases h2 : b = y <;> simp [h1, h2]
set_option maxHeartbeats 1000000 in
set_option maxRecDepth 100000 in
theorem sign_l (z : Int) (hz : B127 z) (w : World) : Calls Tryz.prog 107 #[(.agg #[.int .u64 (LH (z)), .int .u64 (LL (z))])] w (Gives (.int .i64 (sg3 z)) w) := by
  rcases sg3_vals z with ⟨h, e⟩ | ⟨h, e⟩ | ⟨h, e⟩
  · have b : decide (wrap64 (LH z) < 0) = true := by
      simp only [decide_eq_true_eq]; unfold B127 at hz; unfold LH wrap64; omega
    rw [e]
    clear hz h e
    go_enter Tryz.func107, Tryz.ntmps107
    go_wp2
    go_ret
    exact ⟨rfl, by repeat (first | (with_reducible exact Below.refl _ _) | (with_reducible refine bl_alloc ?_ _) | (with_reducible refine Below.drew ?_) | (with_reducible refine below_drewN' ?_ _) | ((with_reducible refine bl_set ?_ ?_ _); (rotate_left; (dsimp only; omega))))⟩
  · subst h
    rw [e, show LH 0 = 0 from rfl, show LL 0 = 0 from rfl]
    have q := eqLong 0 0 0 0
    clear hz e
    go_enter Tryz.func107, Tryz.ntmps107
    go_wp2
    go_ret
    exact ⟨rfl, by repeat (first | (with_reducible exact Below.refl _ _) | (with_reducible refine bl_alloc ?_ _) | (with_reducible refine Below.drew ?_) | (with_reducible refine below_drewN' ?_ _) | ((with_reducible refine bl_set ?_ ?_ _); (rotate_left; (dsimp only; omega))))⟩
  · have b : decide (wrap64 (LH z) < 0) = false := by
      simp only [decide_eq_false_iff_not]; unfold B127 at hz; unfold LH wrap64; omega
    have q : ∀ w : World, (Op.equalIn 10000 134 (.agg #[.int .u64 (LH z), .int .u64 (LL z)]) (.agg #[.int .u64 0, .int .u64 0])).run Tryz.prog w = .ok false w := by
      intro w
      rw [eqLong]
      have : ¬ (LH z = 0 ∧ LL z = 0) := by unfold B127 at hz; unfold LH LL; omega
      simp only [this, decide_false]
    rw [e]
    clear hz h e
    go_enter Tryz.func107, Tryz.ntmps107
    go_wp2
    go_ret
    exact ⟨rfl, by repeat (first | (with_reducible exact Below.refl _ _) | (with_reducible refine bl_alloc ?_ _) | (with_reducible refine Below.drew ?_) | (with_reducible refine below_drewN' ?_ _) | ((with_reducible refine bl_set ?_ ?_ _); (rotate_left; (dsimp only; omega))))⟩
end Go.Proofs.YtpjaefcmaiimlaaGreat

/-
  Contracts of pred's numbers of 128 bits: wide, longOf.
-/
namespace Go.Proofs.YtpjaefcmaiimlaaGreat
open Go.RowKit

end Go.Proofs.YtpjaefcmaiimlaaGreat
