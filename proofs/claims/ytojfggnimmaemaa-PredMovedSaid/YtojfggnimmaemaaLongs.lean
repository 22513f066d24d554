/-
  Numbers of 128 bits in two's complement, and Wides, by the number that they say.
-/
import Derived.Test.YtojfggnimmaemaaGeoMath
import Derived.Test.YtojfggnimmaemaaBase
import Derived.Test.YtojfggnimmaemaaLimbs
import Derived.Test.YtojfggnimmaemaaTwoMath
import Derived.Test.YtojfggnimmaemaaMul
import Derived.Test.YtojfggnimmaemaaKnown0
import Derived.Deep.RegionHeld3
import Derived.Test.YtojfggnimmaemaaVars
namespace Go.Proofs.Ytojfggnimmaemaa
open Go.RowKit

def LH (z : Int) : Int := z / 18446744073709551616 % 18446744073709551616
def LL (z : Int) : Int := z % 18446744073709551616
def B127 (z : Int) : Prop := -170141183460469231731687303715884105728 ≤ z ∧ z < 170141183460469231731687303715884105728
theorem lh_in (z : Int) : In1 (LH z) := by unfold In1 LH; omega
theorem ll_in (z : Int) : In1 (LL z) := by unfold In1 LL; omega
/-- the number of 64 bits, with its sign -/
theorem lh_of {z h l : Int} (hh : In1 h) (hl : In1 l) (e : (h * 18446744073709551616 + l - z) % 340282366920938463463374607431768211456 = 0) : h = LH z ∧ l = LL z := by
  unfold In1 at hh hl; unfold LH LL; omega
theorem u64_of (x : Int) : IntKind.u64.wrap x = x % 18446744073709551616 := by rw [IntKind.wrap_u64]
theorem ll_small {x : Int} (h0 : 0 ≤ x) (h1 : x < 18446744073709551616) : LL x = x := by unfold LL; omega

/-- |x| is at most A -/
def Ab (x A : Int) : Prop := -A ≤ x ∧ x ≤ A
theorem Ab.mul {x y A B : Int} (hx : Ab x A) (hy : Ab y B) : Ab (x * y) (A * B) := by
  unfold Ab at *
  have hA : 0 ≤ A := by omega
  have hB : 0 ≤ B := by omega
  have h : (x * y).natAbs ≤ (A * B).natAbs := by
    rw [Int.natAbs_mul, Int.natAbs_mul]
    exact Nat.mul_le_mul (by omega) (by omega)
  have := Int.mul_nonneg hA hB
  omega
theorem Ab.add {x y A B : Int} (hx : Ab x A) (hy : Ab y B) : Ab (x + y) (A + B) := by unfold Ab at *; omega
theorem Ab.sub {x y A B : Int} (hx : Ab x A) (hy : Ab y B) : Ab (x - y) (A + B) := by unfold Ab at *; omega
theorem Ab.le {x A B : Int} (hx : Ab x A) (h : A ≤ B) : Ab x B := by unfold Ab at *; omega
theorem Ab.b127 {x A : Int} (hx : Ab x A) (h : A < 170141183460469231731687303715884105728) : B127 x := by unfold Ab at hx; unfold B127; omega

def R64 (x : Int) : Prop := -9223372036854775808 ≤ x ∧ x ≤ 9223372036854775807
theorem Ab.r64 {x A : Int} (h : Ab x A) (hA : A ≤ 9223372036854775807) : R64 x := by unfold Ab at h; unfold R64; omega

/-- a Wide's sign and limbs, by its number -/
def QM (z : Int) : Bool := decide (z < 0)
def Q0 (z : Int) : Int := z.natAbs % 18446744073709551616
def Q1 (z : Int) : Int := z.natAbs / 18446744073709551616 % 18446744073709551616
def Q2 (z : Int) : Int := z.natAbs / 340282366920938463463374607431768211456 % 18446744073709551616
def Q3 (z : Int) : Int := z.natAbs / 6277101735386680763835789423207666416102355444464034512896 % 18446744073709551616
theorem q_in (z : Int) : In4 (Q0 z) (Q1 z) (Q2 z) (Q3 z) := by unfold In4 In1 Q0 Q1 Q2 Q3; omega
theorem q_abs {z : Int} (h : -M256 < z ∧ z < M256) : V4 (Q0 z) (Q1 z) (Q2 z) (Q3 z) = z.natAbs := by unfold M256 at h; unfold V4 Q0 Q1 Q2 Q3; omega
theorem q_val {z : Int} (h : -M256 < z ∧ z < M256) : WV (QM z) (Q0 z) (Q1 z) (Q2 z) (Q3 z) = z := by
  unfold WV
  rw [q_abs h]
  unfold QM
  by_cases h0 : z < 0
  · simp [h0]; omega
  · simp [h0]; omega
theorem q_norm {z : Int} (h : -M256 < z ∧ z < M256) : Norm (QM z) (Q0 z) (Q1 z) (Q2 z) (Q3 z) := by
  unfold Norm
  rw [q_abs h]
  unfold QM
  intro e
  simp at e
  omega
theorem q_of {m : Bool} {a b c d z : Int} (hA : In4 a b c d) (hN : Norm m a b c d) (h : WV m a b c d = z) : m = QM z ∧ a = Q0 z ∧ b = Q1 z ∧ c = Q2 z ∧ d = Q3 z := by
  have hb := wv_bounds (m := m) hA
  rw [h] at hb
  exact wv_inj hA (q_in z) hN (q_norm hb) (by rw [q_val hb, h])
end Go.Proofs.Ytojfggnimmaemaa

/-
  Contracts of pred's numbers of 128 bits: times, plus, minus, sign, upper, small, longOf.
-/
namespace Go.Proofs.Ytojfggnimmaemaa
open Go.RowKit

theorem time_math {x y h l : Int} (hx : -9223372036854775808 ≤ x ∧ x ≤ 9223372036854775807) (hy : -9223372036854775808 ≤ y ∧ y ≤ 9223372036854775807) (_hh : In1 h) (hl : In1 l) (e : h * 18446744073709551616 + l = (x % 18446744073709551616) * (y % 18446744073709551616))
    (s t : Int) (hs : s = if x < 0 then y else 0) (ht : t = if y < 0 then x else 0) : (h - s - t) % 18446744073709551616 = LH (x * y) ∧ l = LL (x * y) := by
  have e2 : ∃ k : Int, (x % 18446744073709551616) * (y % 18446744073709551616) = x * y + 18446744073709551616 * (s + t) + 340282366920938463463374607431768211456 * k := by
    subst hs ht
    by_cases h1 : x < 0 <;> by_cases h2 : y < 0
    · refine ⟨1, ?_⟩
      rw [show x % 18446744073709551616 = x + 18446744073709551616 by omega, show y % 18446744073709551616 = y + 18446744073709551616 by omega, if_pos h1, if_pos h2]
      grind
    · refine ⟨0, ?_⟩
      rw [show x % 18446744073709551616 = x + 18446744073709551616 by omega, show y % 18446744073709551616 = y by omega, if_pos h1, if_neg h2]
      grind
    · refine ⟨0, ?_⟩
      rw [show x % 18446744073709551616 = x by omega, show y % 18446744073709551616 = y + 18446744073709551616 by omega, if_neg h1, if_pos h2]
      grind
    · refine ⟨0, ?_⟩
      rw [show x % 18446744073709551616 = x by omega, show y % 18446744073709551616 = y by omega, if_neg h1, if_neg h2]
      grind
  obtain ⟨k, e2⟩ := e2
  rw [e2] at e
  generalize x * y = p at *
  clear e2 hx hy
  unfold In1 at *
  unfold LH LL
  omega

set_option maxHeartbeats 1000000 in
set_option maxRecDepth 100000 in
theorem times_l (x y : Int) (hx : -9223372036854775808 ≤ x ∧ x ≤ 9223372036854775807) (hy : -9223372036854775808 ≤ y ∧ y ≤ 9223372036854775807) (w : World) :
    Calls Try.prog 81 #[.int .i64 x, .int .i64 y] w (Gives (.agg #[.int .u64 (LH (x * y)), .int .u64 (LL (x * y))]) w) := by
  have ux : IntKind.u64.wrap x = x % 18446744073709551616 := u64_of x
  have uy : IntKind.u64.wrap y = y % 18446744073709551616 := u64_of y
  have HX := hi hx
  have HY := hi hy
  have hxs : (decide (x < 0) = true ∧ x < 0) ∨ (decide (x < 0) = false ∧ ¬ x < 0) := by by_cases h : x < 0 <;> simp [h]
  have hys : (decide (y < 0) = true ∧ y < 0) ∨ (decide (y < 0) = false ∧ ¬ y < 0) := by by_cases h : y < 0 <;> simp [h]
  clear hx hy
  have ix : In1 (x % 18446744073709551616) := by unfold In1; omega
  have iy : In1 (y % 18446744073709551616) := by unfold In1; omega
  have HM := hi (fun W => mul64_c _ _ ix iy W)
  rcases hxs with ⟨bx, sx⟩ | ⟨bx, sx⟩ <;> rcases hys with ⟨b_y, sy⟩ | ⟨b_y, sy⟩
  all_goals
    have SX := hi sx
    have SY := hi sy
    clear sx sy
    go_enter Try.func81, Try.ntmps81
    go_wp2_with (first
      | (go_at_call 99; (with_reducible refine (HM.out _).mono ?_); rintro e w' ⟨h, l, hh, hl, hv, rfl, rfl⟩)
      | go_in)
    obtain ⟨q1, q2⟩ := time_math HX.out HY.out hh hl hv.out (if x < 0 then y else 0) (if y < 0 then x else 0) rfl rfl
    first | rw [if_pos SX.out] at q1 | rw [if_neg (by have := SX.out; omega)] at q1
    first | rw [if_pos SY.out] at q1 | rw [if_neg (by have := SY.out; omega)] at q1
    subst q2
    unfold In1 at hh
    first
      | (have E : IntKind.u64.wrap (IntKind.u64.wrap (h - y % 18446744073709551616) - x % 18446744073709551616) = LH (x * y) := by
           rw [u64_of, u64_of, ← q1]; omega
         refine bodyPost_ret (v := (.agg #[.int .u64 (LH (x * y)), .int .u64 (LL (x * y))])) (by simp [results, Try.results81, go_sem, E]; done) rfl ⟨rfl, by repeat (first | (with_reducible exact Below.refl _ _) | (with_reducible refine bl_alloc ?_ _) | (with_reducible refine Below.drew ?_) | (with_reducible refine below_drewN' ?_ _) | ((with_reducible refine bl_set ?_ ?_ _); (rotate_left; (dsimp only; omega))))⟩)
      | (have E : IntKind.u64.wrap (h - y % 18446744073709551616) = LH (x * y) := by
           rw [u64_of, ← q1]; omega
         refine bodyPost_ret (v := (.agg #[.int .u64 (LH (x * y)), .int .u64 (LL (x * y))])) (by simp [results, Try.results81, go_sem, E]; done) rfl ⟨rfl, by repeat (first | (with_reducible exact Below.refl _ _) | (with_reducible refine bl_alloc ?_ _) | (with_reducible refine Below.drew ?_) | (with_reducible refine below_drewN' ?_ _) | ((with_reducible refine bl_set ?_ ?_ _); (rotate_left; (dsimp only; omega))))⟩)
      | (have E : IntKind.u64.wrap (h - x % 18446744073709551616) = LH (x * y) := by
           rw [u64_of, ← q1]; omega
         refine bodyPost_ret (v := (.agg #[.int .u64 (LH (x * y)), .int .u64 (LL (x * y))])) (by simp [results, Try.results81, go_sem, E]; done) rfl ⟨rfl, by repeat (first | (with_reducible exact Below.refl _ _) | (with_reducible refine bl_alloc ?_ _) | (with_reducible refine Below.drew ?_) | (with_reducible refine below_drewN' ?_ _) | ((with_reducible refine bl_set ?_ ?_ _); (rotate_left; (dsimp only; omega))))⟩)
      | (have E : h = LH (x * y) := by
           rw [← q1]; omega
         refine bodyPost_ret (v := (.agg #[.int .u64 (LH (x * y)), .int .u64 (LL (x * y))])) (by simp [results, Try.results81, go_sem, E]; done) rfl ⟨rfl, by repeat (first | (with_reducible exact Below.refl _ _) | (with_reducible refine bl_alloc ?_ _) | (with_reducible refine Below.drew ?_) | (with_reducible refine below_drewN' ?_ _) | ((with_reducible refine bl_set ?_ ?_ _); (rotate_left; (dsimp only; omega))))⟩)

theorem times_r (x y : Int) (hx : R64 x) (hy : R64 y) (w : World) : Calls Try.prog 81 #[.int .i64 x, .int .i64 y] w (Gives (.agg #[.int .u64 (LH (x * y)), .int .u64 (LL (x * y))]) w) := times_l x y hx hy w
theorem lhl (z : Int) (h : B127 z) : ∃ e : Int, LH z * 18446744073709551616 + LL z = z + 340282366920938463463374607431768211456 * e ∧ (z < 0 → e = 1) ∧ (0 ≤ z → e = 0) := by
  unfold B127 at h
  unfold LH LL
  rcases Int.lt_or_le z 0 with h0 | h0
  · exact ⟨1, by omega, fun _ => rfl, fun h => by omega⟩
  · exact ⟨0, by omega, fun h => by omega, fun _ => rfl⟩

set_option maxHeartbeats 1000000 in
set_option maxRecDepth 100000 in
theorem plus_l (x y : Int) (w : World) : Calls Try.prog 85 #[(.agg #[.int .u64 (LH (x)), .int .u64 (LL (x))]), (.agg #[.int .u64 (LH (y)), .int .u64 (LL (y))])] w (Gives (.agg #[.int .u64 (LH (x + y)), .int .u64 (LL (x + y))]) w) := by
  obtain ⟨s0, c0, g0, h0⟩ := add64_ex (LL x) (LL y) 0 (ll_in _) (ll_in _) (by omega) (by omega)
  obtain ⟨s1, c1, g1, h1⟩ := add64_ex (LH x) (LH y) c0 (lh_in _) (lh_in _) g0.out.2.1 g0.out.2.2.1
  obtain ⟨e1, e2⟩ : s1 = LH (x + y) ∧ s0 = LL (x + y) := by
    have a := g0.out
    have b := g1.out
    unfold In1 LH LL at *
    omega
  subst e1 e2
  go_enter Try.func85, Try.ntmps85
  go_wp2
  refine bodyPost_ret (v := (.agg #[.int .u64 (LH (x + y)), .int .u64 (LL (x + y))])) (by simp [results, Try.results85, go_sem]; done) rfl ⟨rfl, by repeat (first | (with_reducible exact Below.refl _ _) | (with_reducible refine bl_alloc ?_ _) | (with_reducible refine Below.drew ?_) | (with_reducible refine below_drewN' ?_ _) | ((with_reducible refine bl_set ?_ ?_ _); (rotate_left; (dsimp only; omega))))⟩
set_option maxHeartbeats 1000000 in
set_option maxRecDepth 100000 in
theorem minus_l (x y : Int) (w : World) : Calls Try.prog 82 #[(.agg #[.int .u64 (LH (x)), .int .u64 (LL (x))]), (.agg #[.int .u64 (LH (y)), .int .u64 (LL (y))])] w (Gives (.agg #[.int .u64 (LH (x - y)), .int .u64 (LL (x - y))]) w) := by
  obtain ⟨s0, c0, g0, h0⟩ := sub64_ex (LL x) (LL y) 0 (ll_in _) (ll_in _) (by omega) (by omega)
  obtain ⟨s1, c1, g1, h1⟩ := sub64_ex (LH x) (LH y) c0 (lh_in _) (lh_in _) g0.out.2.1 g0.out.2.2.1
  obtain ⟨e1, e2⟩ : s1 = LH (x - y) ∧ s0 = LL (x - y) := by
    have a := g0.out
    have b := g1.out
    unfold In1 LH LL at *
    omega
  subst e1 e2
  go_enter Try.func82, Try.ntmps82
  go_wp2
  refine bodyPost_ret (v := (.agg #[.int .u64 (LH (x - y)), .int .u64 (LL (x - y))])) (by simp [results, Try.results82, go_sem]; done) rfl ⟨rfl, by repeat (first | (with_reducible exact Below.refl _ _) | (with_reducible refine bl_alloc ?_ _) | (with_reducible refine Below.drew ?_) | (with_reducible refine below_drewN' ?_ _) | ((with_reducible refine bl_set ?_ ?_ _); (rotate_left; (dsimp only; omega))))⟩
def Up (l : Int) : Int := if l < 9223372036854775808 then 0 else 18446744073709551615
theorem up_wrap (l : Int) (hl : In1 l) : IntKind.u64.wrap (wrap64 l / 9223372036854775808) = Up l := by
  rw [u64_of]; unfold In1 at hl; unfold wrap64 Up; split <;> omega
set_option maxHeartbeats 1000000 in
set_option maxRecDepth 100000 in
theorem upper_l (l : Int) (hl : In1 l) (w : World) : Calls Try.prog 95 #[.int .u64 l] w (fun e w' => e = .returned (.int .u64 (Up l)) ∧ w = w') := by
  have E := hi (up_wrap l hl)
  go_enter Try.func95, Try.ntmps95
  go_wp2
  rw [E.out]
  go_ret
  exact ⟨rfl, rfl⟩
set_option maxRecDepth 100000 in
theorem eqLong (a b x y : Int) (w : World) : (Op.equalIn 10000 67 (.agg #[.int .u64 a, .int .u64 b]) (.agg #[.int .u64 x, .int .u64 y])).run Try.prog w = .ok (decide (a = x ∧ b = y)) w := by
  have hS : Try.prog.underlying 67 = some (.struct (Try.prog.fieldsOf 67)) := by kernel_rfl
  have hp : Try.prog.stoodInHeld 67 = false := by kernel_rfl
  have u4 := Try.underlying65
  rw [show (10000 : Nat) = 9999 + 1 from rfl, run_equalIn_agg w 9999 67 _ _ hS hp]
  simp only [Program.fieldsOf, Try.underlying67]
  go_simp
  by_cases h1 : a = x <;> by_cases h2 : b = y <;> simp [h1, h2]
set_option maxHeartbeats 1000000 in
set_option maxRecDepth 100000 in
theorem sign_l (z : Int) (hz : B127 z) (w : World) : Calls Try.prog 57 #[(.agg #[.int .u64 (LH (z)), .int .u64 (LL (z))])] w (Gives (.int .i64 (sg3 z)) w) := by
  rcases sg3_vals z with ⟨h, e⟩ | ⟨h, e⟩ | ⟨h, e⟩
  · have b : decide (wrap64 (LH z) < 0) = true := by
      simp only [decide_eq_true_eq]; unfold B127 at hz; unfold LH wrap64; omega
    rw [e]
    clear hz h e
    go_enter Try.func57, Try.ntmps57
    go_wp2
    go_ret
    exact ⟨rfl, by repeat (first | (with_reducible exact Below.refl _ _) | (with_reducible refine bl_alloc ?_ _) | (with_reducible refine Below.drew ?_) | (with_reducible refine below_drewN' ?_ _) | ((with_reducible refine bl_set ?_ ?_ _); (rotate_left; (dsimp only; omega))))⟩
  · subst h
    rw [e, show LH 0 = 0 from rfl, show LL 0 = 0 from rfl]
    have q := eqLong 0 0 0 0
    clear hz e
    go_enter Try.func57, Try.ntmps57
    go_wp2
    go_ret
    exact ⟨rfl, by repeat (first | (with_reducible exact Below.refl _ _) | (with_reducible refine bl_alloc ?_ _) | (with_reducible refine Below.drew ?_) | (with_reducible refine below_drewN' ?_ _) | ((with_reducible refine bl_set ?_ ?_ _); (rotate_left; (dsimp only; omega))))⟩
  · have b : decide (wrap64 (LH z) < 0) = false := by
      simp only [decide_eq_false_iff_not]; unfold B127 at hz; unfold LH wrap64; omega
    have q : ∀ w : World, (Op.equalIn 10000 67 (.agg #[.int .u64 (LH z), .int .u64 (LL z)]) (.agg #[.int .u64 0, .int .u64 0])).run Try.prog w = .ok false w := by
      intro w
      rw [eqLong]
      have : ¬ (LH z = 0 ∧ LL z = 0) := by unfold B127 at hz; unfold LH LL; omega
      simp only [this, decide_false]
    rw [e]
    clear hz h e
    go_enter Try.func57, Try.ntmps57
    go_wp2
    go_ret
    exact ⟨rfl, by repeat (first | (with_reducible exact Below.refl _ _) | (with_reducible refine bl_alloc ?_ _) | (with_reducible refine Below.drew ?_) | (with_reducible refine below_drewN' ?_ _) | ((with_reducible refine bl_set ?_ ?_ _); (rotate_left; (dsimp only; omega))))⟩
def smB (z : Int) : Bool := LH z == Up (LL z)
def S64 (z : Int) : Int := IntKind.i64.wrap (LL z)
theorem smB_yes {z : Int} (hz : B127 z) (h : smB z = true) : S64 z = z ∧ -9223372036854775808 ≤ z ∧ z ≤ 9223372036854775807 := by
  unfold smB at h
  simp only [beq_iff_eq] at h
  unfold B127 at hz
  unfold LH LL Up at h
  unfold S64 LL
  rw [IntKind.wrap_i64]
  split at h <;> omega
set_option maxHeartbeats 1000000 in
set_option maxRecDepth 100000 in
theorem small_l (z : Int) (w : World) : Calls Try.prog 86 #[(.agg #[.int .u64 (LH (z)), .int .u64 (LL (z))])] w (Gives (.tuple #[.int .i64 (S64 z), .bool (smB z)]) w) := by
  have HL := hi (ll_in z)
  go_enter Try.func86, Try.ntmps86
  go_wp2
  refine wp_region_held_drew (S := fun W => W.cell? ⟨w.heap.size, 0, none⟩ = some (.int .u64 (LH z)) ∧ W.cell? ⟨w.heap.size, 1, none⟩ = some (.int .u64 (LL z))) (by kernel_rfl) ?_ (fun q1 => ?_)
  · simp [go_sem]
  refine tk (i := 0) (v := ?_) rfl (Or.inl ⟨by rfl, ?_⟩) ?_
  rotate_left
  · intro w hSw
    try dsimp only at hSw
    go_simp
    all_goals (with_reducible rfl)
  try simp only [Act.put, x2, x4, x5, x6, x7]
  refine tk (i := 1) (v := ?_) rfl (Or.inl ⟨by rfl, ?_⟩) ?_
  rotate_left
  · intro w hSw
    try dsimp only at hSw
    go_simp
    all_goals (with_reducible rfl)
  try simp only [Act.put, x2, x3, x4, x5, x6, x7]
  refine tk (i := 2) (v := ?_) rfl (Or.inl ⟨by rfl, ?_⟩) ?_
  rotate_left
  · intro w hSw
    try dsimp only at hSw
    go_simp
    all_goals (with_reducible rfl)
  try simp only [Act.put, x2, x3, x4, x5, x6, x7]
  refine tk (i := 3) (v := ?_) rfl (Or.inl ⟨by rfl, ?_⟩) ?_
  rotate_left
  · intro w hSw
    try dsimp only at hSw
    go_simp
    all_goals (with_reducible rfl)
  try simp only [Act.put, x2, x3, x4, x5, x6, x7]
  refine tk (i := 4) (v := ?_) rfl (Or.inl ⟨by rfl, ?_⟩) ?_
  rotate_left
  · intro w hSw
    try dsimp only at hSw
    go_simp
    all_goals (with_reducible rfl)
  try simp only [Act.put, x2, x3, x4, x5, x6, x7]
  refine tk (i := 5) (v := ?_) rfl (Or.inl ⟨by rfl, ?_⟩) ?_
  rotate_left
  · intro w hSw
    try dsimp only at hSw
    go_simp
    all_goals (with_reducible rfl)
  try simp only [Act.put, x2, x3, x4, x5, x6, x7]
  refine tk (i := 6) (v := ?_) rfl (Or.inl ⟨by rfl, ?_⟩) ?_
  rotate_left
  · intro w hSw
    try dsimp only at hSw
    go_simp
    all_goals (with_reducible rfl)
  try simp only [Act.put, x2, x3, x4, x5, x6, x7]
  refine r1 (i := 7) rfl (fun K hK => ?_)
  go_simp
  go_at_call 95
  (with_reducible refine (upper_l _ HL.out _).mono ?_); rintro e w1 ⟨rfl, rfl⟩
  go_wp2_with fail
  refine hK.out _ _ ?_ (fun q2 => ?_)
  · exact q1
  clear hK K q1
  have q1 := q2
  clear q2
  try simp only [Act.put, x2, x3, x4, x5, x6, x7]
  refine tk (i := 8) (v := ?_) rfl (Or.inl ⟨by rfl, ?_⟩) ?_
  rotate_left
  · intro w hSw
    try dsimp only at hSw
    go_simp
    all_goals (with_reducible rfl)
  try simp only [Act.put, x2, x3, x4, x5, x6, x7]
  refine tk (i := 9) (v := ?_) rfl (Or.inl ⟨by rfl, ?_⟩) ?_
  rotate_left
  · intro w hSw
    try dsimp only at hSw
    go_simp
    all_goals (with_reducible rfl)
  try simp only [Act.put, x2, x3, x4, x5, x6, x7]
  refine tk (i := 10) (v := ?_) rfl (Or.inl ⟨by rfl, ?_⟩) ?_
  rotate_left
  · intro w hSw
    try dsimp only at hSw
    go_simp
    all_goals (with_reducible rfl)
  try simp only [Act.put, x2, x3, x4, x5, x6, x7]
  refine wpAnyH_done (by kernel_rfl) ?_ _
  go_wp2_with fail
  go_ret2
  exact ⟨rfl, by repeat (first | (with_reducible exact Below.refl _ _) | (with_reducible refine bl_alloc ?_ _) | (with_reducible refine Below.drew ?_) | (with_reducible refine below_drewN' ?_ _) | ((with_reducible refine bl_set ?_ ?_ _); (rotate_left; (dsimp only; omega))))⟩
end Go.Proofs.Ytojfggnimmaemaa

/-
  Contracts of pred's numbers of 128 bits: wide, longOf.
-/
namespace Go.Proofs.Ytojfggnimmaemaa
open Go.RowKit

theorem q_long {z : Int} (hz : B127 z) : Q2 z = 0 ∧ Q3 z = 0 ∧ (z < 0 → QM z = true ∧ Q0 z = LL (-z) ∧ Q1 z = LH (-z)) ∧ (0 ≤ z → QM z = false ∧ Q0 z = LL z ∧ Q1 z = LH z) := by
  unfold B127 at hz
  refine ⟨?_, ?_, fun h => ⟨?_, ?_, ?_⟩, fun h => ⟨?_, ?_, ?_⟩⟩
  · unfold Q2; omega
  · unfold Q3; omega
  · unfold QM; simp [h]
  · unfold Q0 LL; omega
  · unfold Q1 LH; omega
  · unfold QM; simp; omega
  · unfold Q0 LL; omega
  · unfold Q1 LH; omega
theorem minus0_l (z : Int) (w : World) : Calls Try.prog 82 #[.agg #[.int .u64 0, .int .u64 0], (.agg #[.int .u64 (LH (z)), .int .u64 (LL (z))])] w (Gives (.agg #[.int .u64 (LH (-z)), .int .u64 (LL (-z))]) w) := by
  have h := minus_l 0 z w
  rw [show LH 0 = 0 from rfl, show LL 0 = 0 from rfl, Int.zero_sub] at h
  exact h

set_option maxHeartbeats 1000000 in
set_option maxRecDepth 100000 in
theorem longWide_l (z : Int) (hz : B127 z) (w : World) : Calls Try.prog 87 #[(.agg #[.int .u64 (LH (z)), .int .u64 (LL (z))])] w (Gives (.agg #[.bool (QM (z)), .int .u64 (Q0 (z)), .int .u64 (Q1 (z)), .int .u64 (Q2 (z)), .int .u64 (Q3 (z))]) w) := by
  obtain ⟨q2, q3, qn, qp⟩ := q_long hz
  rw [q2, q3]
  have HZ := hi hz
  clear hz
  rcases Int.lt_or_le z 0 with h | h
  · obtain ⟨r0, r1, r2⟩ := qn h
    have hs : Hid (sg3 z = -1) := sg3_lt h
    rw [r0, r1, r2]
    clear qn qp r0 r1 r2 q2 q3 h
    go_enter Try.func87, Try.ntmps87
    go_upto_region 1 with (fail)
    refine wp_abs (fun W => Var W w.heap.size [.int .u64 (LH z), .int .u64 (LL z)] ∧ Var W (w.heap.size + 1) [.bool false, .int .u64 0, .int .u64 0, .int .u64 0, .int .u64 0] ∧ Grew w 2 W) ?_ ?_
    · exact ⟨(var2_new _ _ _ _ _ rfl).below (bl_one _ _), var5_new _ _ _ _ _ _ _ _ (by simp), by repeat (first | (with_reducible exact Below.refl _ _) | (with_reducible refine bl_alloc ?_ _) | (with_reducible refine Below.drew ?_) | (with_reducible refine below_drewN' ?_ _) | ((with_reducible refine bl_set ?_ ?_ _); (rotate_left; (dsimp only; omega)))), by simp⟩
    rintro W0 ⟨v1, v2, hG⟩
    have HV := hi (And.intro v1 (And.intro v2 hG))
    obtain ⟨c0, c1⟩ := v1.two
    clear v1 v2 hG
    go_wp2_with fail
    refine (sign_l z HZ.out _).mono ?_
    rintro e w1 ⟨rfl, hb1⟩
    rw [hs.out]
    have HV1 := hi (And.intro (HV.out.1.below hb1) (And.intro (HV.out.2.1.below hb1) (HV.out.2.2.below hb1)))
    clear HV c0 c1 hb1
    obtain ⟨c0, c1⟩ := HV1.out.1.two
    go_wp2_with fail
    refine (minus0_l z _).mono ?_
    rintro e w2 ⟨rfl, hb2⟩
    have HV2 := hi (And.intro (HV1.out.1.below hb2) (And.intro (HV1.out.2.1.below hb2) (HV1.out.2.2.below hb2)))
    clear HV1 c0 c1 hb2
    obtain ⟨c0, c1⟩ := HV2.out.1.two
    obtain ⟨f0, f1⟩ := HV2.out.1.free2
    obtain ⟨d0, d1, d2, d3, d4⟩ := HV2.out.2.1.five
    obtain ⟨g0, g1, g2, g3, g4⟩ := HV2.out.2.1.free5
    go_wp2
    have hb := HV2.out.2.2.hb
    refine bodyPost_ret (v := .agg #[.bool true, .int .u64 (LL (-z)), .int .u64 (LH (-z)), .int .u64 0, .int .u64 0]) (by simp [results, Try.results87, go_sem, *]; done) rfl ⟨rfl, ?_⟩
    repeat (first | (with_reducible exact Below.refl _ _) | (with_reducible refine bl_alloc ?_ _) | (with_reducible refine Below.drew ?_) | (with_reducible refine below_drewN' ?_ _) | ((with_reducible refine bl_set ?_ ?_ _); (rotate_left; (dsimp only; omega))))
    exact hb
  · obtain ⟨r0, r1, r2⟩ := qp h
    obtain ⟨s, hs, hs0⟩ : ∃ s, Hid (s = sg3 z) ∧ 0 ≤ s := by
      rcases sg3_vals z with ⟨h1, e⟩ | ⟨-, e⟩ | ⟨-, e⟩
      · omega
      · exact ⟨0, e.symm, by omega⟩
      · exact ⟨1, e.symm, by omega⟩
    have b : decide (s < 0) = false := by simp; omega
    rw [r0, r1, r2]
    clear qn qp r0 r1 r2 q2 q3 h
    go_enter Try.func87, Try.ntmps87
    go_wp2_with fail
    refine (sign_l z HZ.out _).mono ?_
    rintro e w1 ⟨rfl, hb1⟩
    rw [← hs.out]
    obtain ⟨c1, f1⟩ := bcell hb1
    have hz1 : w.heap.size + 1 < w1.heap.size := by have := hb1.size; simp at this; omega
    go_wp2
    refine bodyPost_ret (v := .agg #[.bool false, .int .u64 (LL z), .int .u64 (LH z), .int .u64 0, .int .u64 0]) (by simp [results, Try.results87, go_sem, c1]; done) rfl ⟨rfl, by repeat (first | (with_reducible exact Below.refl _ _) | (with_reducible refine bl_alloc ?_ _) | (with_reducible refine Below.drew ?_) | (with_reducible refine below_drewN' ?_ _) | (with_reducible refine bl_trans ?_ hb1) | ((with_reducible refine bl_set ?_ ?_ _); (rotate_left; (dsimp only; omega))))⟩

theorem lh_small {x : Int} (h : -9223372036854775808 ≤ x ∧ x ≤ 9223372036854775807) : Up (IntKind.u64.wrap x) = LH x ∧ IntKind.u64.wrap x = LL x := by
  rw [u64_of]
  unfold Up LH LL
  split <;> omega
set_option maxHeartbeats 1000000 in
set_option maxRecDepth 100000 in
theorem longOf_l (x : Int) (hx : -9223372036854775808 ≤ x ∧ x ≤ 9223372036854775807) (w : World) : Calls Try.prog 73 #[.int .i64 x] w (Gives (.agg #[.int .u64 (LH (x)), .int .u64 (LL (x))]) w) := by
  obtain ⟨e1, e2⟩ := lh_small hx
  have HL := hi (ll_in x)
  rw [e2] at e1
  have E1 := hi e1
  have HX := hi hx
  clear e1 hx
  go_enter Try.func73, Try.ntmps73
  go_wp2_with fail
  refine (upper_l _ HL.out _).mono ?_
  rintro e w1 ⟨rfl, rfl⟩
  rw [E1.out]
  go_wp2
  refine bodyPost_ret (v := (.agg #[.int .u64 (LH (x)), .int .u64 (LL (x))])) (by simp [results, Try.results73, go_sem]; done) rfl ⟨rfl, by repeat (first | (with_reducible exact Below.refl _ _) | (with_reducible refine bl_alloc ?_ _) | (with_reducible refine Below.drew ?_) | (with_reducible refine below_drewN' ?_ _) | ((with_reducible refine bl_set ?_ ?_ _); (rotate_left; (dsimp only; omega))))⟩
end Go.Proofs.Ytojfggnimmaemaa
