/-
  Contracts: wide.halved, wide.shifted.
-/
import Derived.Test.YtojfggnimmaemaaHalfMath
namespace Go.Proofs.Ytojfggnimmaemaa
open Go.RowKit

def LimbsP (Q : Int → Prop) (w : World) (e : Ending) (w' : World) : Prop :=
  ∃ s0 s1 s2 s3 : Int, In4 s0 s1 s2 s3 ∧ Hid (Q (V4 s0 s1 s2 s3)) ∧ e = .returned (.agg #[.int .u64 s0, .int .u64 s1, .int .u64 s2, .int .u64 s3]) ∧ Below w.heap.size w w'

theorem half_or (c d : Int) (hc : In1 c) (_hd : In1 d) : bits BinOp.or IntKind.u64 (c / 2) (IntKind.u64.wrap (d * 9223372036854775808)) = d % 2 * 9223372036854775808 + c / 2 := by
  unfold In1 at hc
  have e : IntKind.u64.wrap (d * 9223372036854775808) = d % 2 * 9223372036854775808 := by rw [IntKind.wrap_u64]; omega
  rw [e]
  exact orU' 63 _ (d % 2) _ (by rw [show (2 : Int) ^ 63 = 9223372036854775808 from rfl]; omega) (by omega) (by omega) (by rw [show (2 : Int) ^ 63 = 9223372036854775808 from rfl]; omega) (by omega) (by omega)
theorem or_zero (c : Int) (hc : In1 c) : bits BinOp.or IntKind.u64 (c / 2) 0 = c / 2 := by
  unfold In1 at hc
  have := orU' 63 0 0 (c / 2) (by simp) (by omega) (by omega) (by rw [show (2 : Int) ^ 63 = 9223372036854775808 from rfl]; omega) (by omega) (by omega)
  rw [this]; omega

set_option maxHeartbeats 1000000 in
set_option maxRecDepth 100000 in
theorem halved_c (a b c d : Int) (hA : In4 a b c d) (w : World) :
    Calls Try.prog 116 #[(.agg #[.int .u64 a, .int .u64 b, .int .u64 c, .int .u64 d])] w (LimbsP (fun n => n = V4 a b c d / 2) w) := by
  have e0 := hid_mk (or_zero d hA.2.2.2)
  have e1 := hid_mk (half_or c d hA.2.2.1 hA.2.2.2)
  have e2 := hid_mk (half_or b c hA.2.1 hA.2.2.1)
  have e3 := hid_mk (half_or a b hA.1 hA.2.1)
  have HA := hid_mk hA
  clear hA
  go_enter Try.func116, Try.ntmps116
  go_wp2
  refine wp_loop_rounds 5 ?_
  rw [rounds_succ]
  go_wp2
  rw [rounds_succ]
  go_wp2
  rw [rounds_succ]
  go_wp2
  rw [rounds_succ]
  go_wp2
  rw [rounds_succ]
  go_wp2
  rw [e0.out, e1.out, e2.out, e3.out]
  refine bodyPost_ret (v := (.agg #[.int .u64 (b % 2 * 9223372036854775808 + a / 2), .int .u64 (c % 2 * 9223372036854775808 + b / 2), .int .u64 (d % 2 * 9223372036854775808 + c / 2), .int .u64 (d / 2)])) (by simp [results, Try.results116, go_sem]) rfl ⟨_, _, _, _, ?_, ?_, rfl, by repeat (first | (with_reducible exact Below.refl _ _) | (with_reducible refine bl_alloc ?_ _) | (with_reducible refine Below.drew ?_) | (with_reducible refine below_drewN' ?_ _) | ((with_reducible refine bl_set ?_ ?_ _); (rotate_left; (dsimp only; omega))))⟩
  · have h := HA.out
    unfold In4 In1 at *; omega
  · have h := HA.out
    unfold Hid In4 In1 V4 at *; omega

/-- what a shift comes to: the number times 2^n, but for what goes over -/
def ShlP (V : Int) (n : Nat) (v : Int) : Prop := ∃ t : Int, 0 ≤ t ∧ v + M256 * t = V * 2 ^ n

theorem v4_mul (a b c d p : Int) : V4 a b c d * p = a * p + b * p * 18446744073709551616 + c * p * 340282366920938463463374607431768211456 + d * p * 6277101735386680763835789423207666416102355444464034512896 := by
  unfold V4; grind
theorem mul_pow (V : Int) (s r : Nat) (B : Int) (hB : (2 : Int) ^ (64 * s) = B) : V * 2 ^ (64 * s + r) = V * 2 ^ r * B := by
  rw [Int.pow_add, hB]; grind

set_option maxHeartbeats 1000000 in
set_option maxRecDepth 100000 in
theorem shifted_c0 (a b c d : Int) (hA : In4 a b c d) (n : Int) (r : Nat) (hr : r < 64) (h0 : 0 ≤ n) (h1 : n / 64 = 0) (h2 : n % 64 = (r : Int)) (w : World) :
    Calls Try.prog 115 #[(.agg #[.int .u64 a, .int .u64 b, .int .u64 c, .int .u64 d]), .int .i64 n] w (LimbsP (ShlP (V4 a b c d) n.toNat) w) := by
  have en : n.toNat = 64 * 0 + r := by omega
  have En := hid_mk en
  clear en
  obtain ⟨u0, g0, p0, q0, k0⟩ := shl_parts a hA.1 r hr
  have P0 := hid_mk p0; have Q0 := hid_mk q0; have K0 := hid_mk k0; clear p0 q0 k0
  obtain ⟨u1, g1, p1, q1, k1⟩ := shl_parts b hA.2.1 r hr
  have P1 := hid_mk p1; have Q1 := hid_mk q1; have K1 := hid_mk k1; clear p1 q1 k1
  obtain ⟨u2, g2, p2, q2, k2⟩ := shl_parts c hA.2.2.1 r hr
  have P2 := hid_mk p2; have Q2 := hid_mk q2; have K2 := hid_mk k2; clear p2 q2 k2
  obtain ⟨u3, g3, p3, q3, k3⟩ := shl_parts d hA.2.2.2 r hr
  have P3 := hid_mk p3; have Q3 := hid_mk q3; have K3 := hid_mk k3; clear p3 q3 k3
  have HA := hid_mk hA
  clear hA
  go_enter Try.func115, Try.ntmps115
  go_wp2
  refine wp_loop_rounds 5 ?_
  rw [rounds_succ]
  go_wp2
  rw [rounds_succ]
  go_wp2
  go_region
  go_wp2
  rw [rounds_succ]
  go_wp2
  go_region
  go_wp2
  rw [rounds_succ]
  go_wp2
  go_region
  go_wp2
  rw [rounds_succ]
  go_wp2
  simp only [P0.out, P1.out, P2.out, P3.out, Q0.out, Q1.out, Q2.out]
  rw [orU r (2 ^ r * u1) u1 g0 rfl K1.out.1 K0.out.2.1 K0.out.2.2.1 K1.out.2.2.2.1 K0.out.2.2.2.2.1]
  rw [orU r (2 ^ r * u2) u2 g1 rfl K2.out.1 K1.out.2.1 K1.out.2.2.1 K2.out.2.2.2.1 K1.out.2.2.2.2.1]
  rw [orU r (2 ^ r * u3) u3 g2 rfl K3.out.1 K2.out.2.1 K2.out.2.2.1 K3.out.2.2.2.1 K2.out.2.2.2.2.1]
  refine bodyPost_ret (v := (.agg #[.int .u64 (2 ^ r * u0), .int .u64 (2 ^ r * u1 + g0), .int .u64 (2 ^ r * u2 + g1), .int .u64 (2 ^ r * u3 + g2)])) (by simp [results, Try.results115, go_sem]) rfl ⟨_, _, _, _, ?_, ?_, rfl, by repeat (first | (with_reducible exact Below.refl _ _) | (with_reducible refine bl_alloc ?_ _) | (with_reducible refine Below.drew ?_) | (with_reducible refine below_drewN' ?_ _) | ((with_reducible refine bl_set ?_ ?_ _); (rotate_left; (dsimp only; omega))))⟩
  · have k0 := K0.out; have k1 := K1.out; have k2 := K2.out; have k3 := K3.out
    unfold In4 In1; omega
  · have k0 := K0.out; have k1 := K1.out; have k2 := K2.out; have k3 := K3.out
    have h := HA.out
    unfold In4 In1 at h
    have hp0 : (0 : Int) < 2 ^ r := Int.pow_pos (by omega)
    have hp : (0 : Int) ≤ 2 ^ r := by omega
    refine ⟨g3, by omega, ?_⟩
    rw [En.out, mul_pow _ 0 r 1 (by decide), v4_mul]
    unfold V4 M256; omega

set_option maxHeartbeats 1000000 in
set_option maxRecDepth 100000 in
theorem shifted_c1 (a b c d : Int) (hA : In4 a b c d) (n : Int) (r : Nat) (hr : r < 64) (h0 : 0 ≤ n) (h1 : n / 64 = 1) (h2 : n % 64 = (r : Int)) (w : World) :
    Calls Try.prog 115 #[(.agg #[.int .u64 a, .int .u64 b, .int .u64 c, .int .u64 d]), .int .i64 n] w (LimbsP (ShlP (V4 a b c d) n.toNat) w) := by
  have en : n.toNat = 64 * 1 + r := by omega
  have En := hid_mk en
  clear en
  obtain ⟨u0, g0, p0, q0, k0⟩ := shl_parts a hA.1 r hr
  have P0 := hid_mk p0; have Q0 := hid_mk q0; have K0 := hid_mk k0; clear p0 q0 k0
  obtain ⟨u1, g1, p1, q1, k1⟩ := shl_parts b hA.2.1 r hr
  have P1 := hid_mk p1; have Q1 := hid_mk q1; have K1 := hid_mk k1; clear p1 q1 k1
  obtain ⟨u2, g2, p2, q2, k2⟩ := shl_parts c hA.2.2.1 r hr
  have P2 := hid_mk p2; have Q2 := hid_mk q2; have K2 := hid_mk k2; clear p2 q2 k2
  have HA := hid_mk hA
  clear hA
  go_enter Try.func115, Try.ntmps115
  go_wp2
  refine wp_loop_rounds 5 ?_
  rw [rounds_succ]
  go_wp2
  rw [rounds_succ]
  go_wp2
  go_region
  go_wp2
  rw [rounds_succ]
  go_wp2
  go_region
  go_wp2
  rw [rounds_succ]
  go_wp2
  simp only [P0.out, P1.out, P2.out, Q0.out, Q1.out]
  rw [orU r (2 ^ r * u1) u1 g0 rfl K1.out.1 K0.out.2.1 K0.out.2.2.1 K1.out.2.2.2.1 K0.out.2.2.2.2.1]
  rw [orU r (2 ^ r * u2) u2 g1 rfl K2.out.1 K1.out.2.1 K1.out.2.2.1 K2.out.2.2.2.1 K1.out.2.2.2.2.1]
  refine bodyPost_ret (v := (.agg #[.int .u64 0, .int .u64 (2 ^ r * u0), .int .u64 (2 ^ r * u1 + g0), .int .u64 (2 ^ r * u2 + g1)])) (by simp [results, Try.results115, go_sem]) rfl ⟨_, _, _, _, ?_, ?_, rfl, by repeat (first | (with_reducible exact Below.refl _ _) | (with_reducible refine bl_alloc ?_ _) | (with_reducible refine Below.drew ?_) | (with_reducible refine below_drewN' ?_ _) | ((with_reducible refine bl_set ?_ ?_ _); (rotate_left; (dsimp only; omega))))⟩
  · have k0 := K0.out; have k1 := K1.out; have k2 := K2.out
    unfold In4 In1; omega
  · have k0 := K0.out; have k1 := K1.out; have k2 := K2.out
    have h := HA.out
    unfold In4 In1 at h
    have hp0 : (0 : Int) < 2 ^ r := Int.pow_pos (by omega)
    have hp : (0 : Int) ≤ 2 ^ r := by omega
    have m3 : 0 ≤ d * 2 ^ r := Int.mul_nonneg (by omega) hp
    refine ⟨g2 + d * 2 ^ r * 1, by omega, ?_⟩
    rw [En.out, mul_pow _ 1 r 18446744073709551616 (by decide), v4_mul]
    unfold V4 M256; omega

set_option maxHeartbeats 1000000 in
set_option maxRecDepth 100000 in
theorem shifted_c2 (a b c d : Int) (hA : In4 a b c d) (n : Int) (r : Nat) (hr : r < 64) (h0 : 0 ≤ n) (h1 : n / 64 = 2) (h2 : n % 64 = (r : Int)) (w : World) :
    Calls Try.prog 115 #[(.agg #[.int .u64 a, .int .u64 b, .int .u64 c, .int .u64 d]), .int .i64 n] w (LimbsP (ShlP (V4 a b c d) n.toNat) w) := by
  have en : n.toNat = 64 * 2 + r := by omega
  have En := hid_mk en
  clear en
  obtain ⟨u0, g0, p0, q0, k0⟩ := shl_parts a hA.1 r hr
  have P0 := hid_mk p0; have Q0 := hid_mk q0; have K0 := hid_mk k0; clear p0 q0 k0
  obtain ⟨u1, g1, p1, q1, k1⟩ := shl_parts b hA.2.1 r hr
  have P1 := hid_mk p1; have Q1 := hid_mk q1; have K1 := hid_mk k1; clear p1 q1 k1
  have HA := hid_mk hA
  clear hA
  go_enter Try.func115, Try.ntmps115
  go_wp2
  refine wp_loop_rounds 5 ?_
  rw [rounds_succ]
  go_wp2
  rw [rounds_succ]
  go_wp2
  go_region
  go_wp2
  rw [rounds_succ]
  go_wp2
  simp only [P0.out, P1.out, Q0.out]
  rw [orU r (2 ^ r * u1) u1 g0 rfl K1.out.1 K0.out.2.1 K0.out.2.2.1 K1.out.2.2.2.1 K0.out.2.2.2.2.1]
  refine bodyPost_ret (v := (.agg #[.int .u64 0, .int .u64 0, .int .u64 (2 ^ r * u0), .int .u64 (2 ^ r * u1 + g0)])) (by simp [results, Try.results115, go_sem]) rfl ⟨_, _, _, _, ?_, ?_, rfl, by repeat (first | (with_reducible exact Below.refl _ _) | (with_reducible refine bl_alloc ?_ _) | (with_reducible refine Below.drew ?_) | (with_reducible refine below_drewN' ?_ _) | ((with_reducible refine bl_set ?_ ?_ _); (rotate_left; (dsimp only; omega))))⟩
  · have k0 := K0.out; have k1 := K1.out
    unfold In4 In1; omega
  · have k0 := K0.out; have k1 := K1.out
    have h := HA.out
    unfold In4 In1 at h
    have hp0 : (0 : Int) < 2 ^ r := Int.pow_pos (by omega)
    have hp : (0 : Int) ≤ 2 ^ r := by omega
    have m2 : 0 ≤ c * 2 ^ r := Int.mul_nonneg (by omega) hp
    have m3 : 0 ≤ d * 2 ^ r := Int.mul_nonneg (by omega) hp
    refine ⟨g1 + c * 2 ^ r * 1 + d * 2 ^ r * 18446744073709551616, by omega, ?_⟩
    rw [En.out, mul_pow _ 2 r 340282366920938463463374607431768211456 (by decide), v4_mul]
    unfold V4 M256; omega

set_option maxHeartbeats 1000000 in
set_option maxRecDepth 100000 in
theorem shifted_c3 (a b c d : Int) (hA : In4 a b c d) (n : Int) (r : Nat) (hr : r < 64) (h0 : 0 ≤ n) (h1 : n / 64 = 3) (h2 : n % 64 = (r : Int)) (w : World) :
    Calls Try.prog 115 #[(.agg #[.int .u64 a, .int .u64 b, .int .u64 c, .int .u64 d]), .int .i64 n] w (LimbsP (ShlP (V4 a b c d) n.toNat) w) := by
  have en : n.toNat = 64 * 3 + r := by omega
  have En := hid_mk en
  clear en
  obtain ⟨u0, g0, p0, q0, k0⟩ := shl_parts a hA.1 r hr
  have P0 := hid_mk p0; have Q0 := hid_mk q0; have K0 := hid_mk k0; clear p0 q0 k0
  have HA := hid_mk hA
  clear hA
  go_enter Try.func115, Try.ntmps115
  go_wp2
  refine wp_loop_rounds 5 ?_
  rw [rounds_succ]
  go_wp2
  rw [rounds_succ]
  go_wp2
  simp only [P0.out]
  refine bodyPost_ret (v := (.agg #[.int .u64 0, .int .u64 0, .int .u64 0, .int .u64 (2 ^ r * u0)])) (by simp [results, Try.results115, go_sem]) rfl ⟨_, _, _, _, ?_, ?_, rfl, by repeat (first | (with_reducible exact Below.refl _ _) | (with_reducible refine bl_alloc ?_ _) | (with_reducible refine Below.drew ?_) | (with_reducible refine below_drewN' ?_ _) | ((with_reducible refine bl_set ?_ ?_ _); (rotate_left; (dsimp only; omega))))⟩
  · have k0 := K0.out
    unfold In4 In1; omega
  · have k0 := K0.out
    have h := HA.out
    unfold In4 In1 at h
    have hp0 : (0 : Int) < 2 ^ r := Int.pow_pos (by omega)
    have hp : (0 : Int) ≤ 2 ^ r := by omega
    have m1 : 0 ≤ b * 2 ^ r := Int.mul_nonneg (by omega) hp
    have m2 : 0 ≤ c * 2 ^ r := Int.mul_nonneg (by omega) hp
    have m3 : 0 ≤ d * 2 ^ r := Int.mul_nonneg (by omega) hp
    refine ⟨g0 + b * 2 ^ r * 1 + c * 2 ^ r * 18446744073709551616 + d * 2 ^ r * 340282366920938463463374607431768211456, by omega, ?_⟩
    rw [En.out, mul_pow _ 3 r 6277101735386680763835789423207666416102355444464034512896 (by decide), v4_mul]
    unfold V4 M256; omega

theorem shifted_c (a b c d : Int) (hA : In4 a b c d) (n : Int) (h0 : 0 ≤ n) (h1 : n < 256) (w : World) :
    Calls Try.prog 115 #[(.agg #[.int .u64 a, .int .u64 b, .int .u64 c, .int .u64 d]), .int .i64 n] w (LimbsP (ShlP (V4 a b c d) n.toNat) w) := by
  have hr : (n % 64).toNat < 64 := by omega
  have h2 : n % 64 = (((n % 64).toNat : Nat) : Int) := by omega
  have : n / 64 = 0 ∨ n / 64 = 1 ∨ n / 64 = 2 ∨ n / 64 = 3 := by omega
  rcases this with h | h | h | h
  · exact shifted_c0 a b c d hA n _ hr h0 h h2 w
  · exact shifted_c1 a b c d hA n _ hr h0 h h2 w
  · exact shifted_c2 a b c d hA n _ hr h0 h h2 w
  · exact shifted_c3 a b c d hA n _ hr h0 h h2 w
end Go.Proofs.Ytojfggnimmaemaa
