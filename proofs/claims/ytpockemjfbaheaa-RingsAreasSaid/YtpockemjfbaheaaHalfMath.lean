/-
  Plain facts on shifts of limbs.
-/
import Derived.Test.YtpockemjfbaheaaTwoMath
namespace Go.Proofs.Ytpockemjfbaheaa
open Go.RowKit

/-- x | y, x a multiple of 2^k, y below 2^k -/
theorem orU (k : Nat) (x q y : Int) (hx : x = 2 ^ k * q) (hq : 0 ≤ q) (hy : 0 ≤ y) (hyk : y < 2 ^ k) (h64 : x < 18446744073709551616) (hy64 : y < 18446744073709551616) : bits .or .u64 x y = x + y := by
  obtain ⟨Q, rfl⟩ := Int.eq_ofNat_of_zero_le hq
  obtain ⟨Y, rfl⟩ := Int.eq_ofNat_of_zero_le hy
  have hx' : x = ((2 ^ k * Q : Nat) : Int) := by rw [hx]; push_cast; rfl
  have h64' : 2 ^ k * Q < 18446744073709551616 := by rw [hx'] at h64; omega
  rw [hx']
  have e := Nat.two_pow_add_eq_or_of_lt (i := k) (b := Y) (by exact_mod_cast hyk) Q
  rw [bits_or_u64_nat _ _ (by omega) (by omega), ← e]
  push_cast
  rfl
theorem orU' (k : Nat) (x q y : Int) (hx : x = 2 ^ k * q) (hq : 0 ≤ q) (hy : 0 ≤ y) (hyk : y < 2 ^ k) (h64 : x < 18446744073709551616) (hy64 : y < 18446744073709551616) : bits .or .u64 y x = x + y := by
  obtain ⟨Q, rfl⟩ := Int.eq_ofNat_of_zero_le hq
  obtain ⟨Y, rfl⟩ := Int.eq_ofNat_of_zero_le hy
  have hx' : x = ((2 ^ k * Q : Nat) : Int) := by rw [hx]; push_cast; rfl
  have h64' : 2 ^ k * Q < 18446744073709551616 := by rw [hx'] at h64; omega
  rw [hx']
  have e := Nat.two_pow_add_eq_or_of_lt (i := k) (b := Y) (by exact_mod_cast hyk) Q
  rw [bits_or_u64_nat _ _ (by omega) (by omega), Nat.or_comm, ← e]
  push_cast
  rfl

/-- a limb shifted by r, 0 ≤ r < 64: what stays, and what goes over -/
theorem shl_parts (x : Int) (hx : In1 x) (r : Nat) (hr : r < 64) :
    ∃ u h : Int, IntKind.u64.wrap (x * 2 ^ r) = 2 ^ r * u ∧ x / 2 ^ (64 - r) = h ∧ 0 ≤ u ∧ 0 ≤ h ∧ h < 2 ^ r ∧ 2 ^ r * u < 18446744073709551616 ∧ h < 18446744073709551616 ∧ 2 ^ r * u + 2 ^ r ≤ 18446744073709551616 ∧ x * 2 ^ r = 18446744073709551616 * h + 2 ^ r * u ∧ 0 ≤ 2 ^ r * u := by
  have hPR : (2 : Int) ^ r * 2 ^ (64 - r) = 18446744073709551616 := by
    rw [← Int.pow_add, show r + (64 - r) = 64 by omega]; rfl
  have hP : (0 : Int) < 2 ^ r := Int.pow_pos (by omega)
  have hR : (0 : Int) < 2 ^ (64 - r) := Int.pow_pos (by omega)
  unfold In1 at hx
  generalize (2 : Int) ^ r = P at *
  generalize (2 : Int) ^ (64 - r) = R at *
  refine ⟨x % R, x / R, ?_, rfl, Int.emod_nonneg _ (by omega), Int.ediv_nonneg hx.1 (by omega), ?_, ?_, ?_, ?_, ?_, Int.mul_nonneg (by omega) (Int.emod_nonneg _ (by omega))⟩
  · rw [IntKind.wrap_u64, ← hPR, Int.mul_comm x P, Int.mul_emod_mul_of_pos _ _ hP]
  · rw [Int.ediv_lt_iff_lt_mul hR]; omega
  · rw [← hPR]; exact Int.mul_lt_mul_of_pos_left (Int.emod_lt_of_pos _ hR) hP
  · have := Int.ediv_le_self R hx.1; omega
  · have h2 : P * (x % R + 1) ≤ P * R := Int.mul_le_mul_of_nonneg_left (by have := Int.emod_lt_of_pos x hR; omega) (by omega)
    rw [Int.mul_add, Int.mul_one, hPR] at h2
    exact h2
  · have := Int.mul_ediv_add_emod x R
    rw [← hPR]
    calc x * P = P * x := Int.mul_comm _ _
      _ = P * (R * (x / R) + x % R) := by rw [this]
      _ = P * R * (x / R) + P * (x % R) := by rw [Int.mul_add, Int.mul_assoc]
end Go.Proofs.Ytpockemjfbaheaa
