/-
  Plain facts on long division bit by bit.
-/
import Derived.Test.YtpockemjfbaheaaLen
import Derived.Test.YtpockemjfbaheaaHalf
namespace Go.Proofs.Ytpockemjfbaheaa
open Go.RowKit

/-- what the numbers are ahead of the round of this bit -/
def DivM (A Y Q R V bit : Int) : Prop :=
  A = Q * Y + R ∧ R < Y * 2 ^ (bit + 1).toNat ∧ (∃ t, 0 ≤ t ∧ Q = 2 ^ (bit + 1).toNat * t) ∧ (0 ≤ bit → V = Y * 2 ^ bit.toNat)

theorem len_lt {X Y n k : Int} (_hX : 0 ≤ X) (hY : 0 < Y) (h1 : LenOf X n) (h2 : LenOf Y k) (h : n - k < 0) : X < Y := by
  have h3 := (h2.2.2.2 hY).1
  have hk : k.toNat = (k.toNat - 1) + 1 := by have := (h2.2.2.2 hY).2; omega
  rw [hk, Int.pow_succ] at h3
  have hle : (2 : Int) ^ n.toNat ≤ 2 ^ (k.toNat - 1) := by
    obtain ⟨e, he⟩ := Nat.exists_eq_add_of_le (show n.toNat ≤ k.toNat - 1 by have := h1.1; omega)
    rw [he, Int.pow_add]
    have p1 : (0 : Int) < 2 ^ n.toNat := Int.pow_pos (by omega)
    have p2 : (0 : Int) < 2 ^ e := Int.pow_pos (by omega)
    have : (2 : Int) ^ n.toNat * 1 ≤ 2 ^ n.toNat * 2 ^ e := Int.mul_le_mul_of_nonneg_left (by omega) (by omega)
    omega
  have := h1.2.1
  omega
theorem pow_split {n k : Int} (h0 : 0 ≤ k) (h : 0 ≤ n - k) : (2 : Int) ^ n.toNat = 2 ^ k.toNat * 2 ^ (n - k).toNat := by
  rw [← Int.pow_add]; congr 1; omega
theorem m256_pow : M256 = 2 ^ 256 := by decide +kernel
theorem pow_mono {i j : Nat} (h : i ≤ j) : (2 : Int) ^ i ≤ 2 ^ j := by
  obtain ⟨e, he⟩ := Nat.exists_eq_add_of_le h
  rw [he, Int.pow_add]
  have p1 : (0 : Int) < 2 ^ i := Int.pow_pos (by omega)
  have p2 : (0 : Int) < 2 ^ e := Int.pow_pos (by omega)
  have : (2 : Int) ^ i * 1 ≤ 2 ^ i * 2 ^ e := Int.mul_le_mul_of_nonneg_left (by omega) (by omega)
  omega
theorem shl_fits {X Y n k v : Int} (hX : 0 ≤ X) (hY : 0 < Y) (h1 : LenOf X n) (h2 : LenOf Y k) (hn : n ≤ 256) (h : 0 ≤ n - k) (hv0 : 0 ≤ v) (hv : ShlP Y (n - k).toNat v) : v = Y * 2 ^ (n - k).toNat ∧ X < Y * 2 ^ ((n - k) + 1).toNat := by
  obtain ⟨t, ht, e⟩ := hv
  have p : (0 : Int) < 2 ^ (n - k).toNat := Int.pow_pos (by omega)
  have s := pow_split h2.1 h
  have m := pow_mono (i := n.toNat) (j := 256) (by have := h1.1; omega)
  rw [← m256_pow] at m
  have a1 : Y * 2 ^ (n - k).toNat < 2 ^ n.toNat := by rw [s]; exact Int.mul_lt_mul_of_pos_right h2.2.1 p
  have a2 : (2 : Int) ^ n.toNat ≤ 2 * Y * 2 ^ (n - k).toNat := by rw [s]; exact Int.mul_le_mul_of_nonneg_right (h2.2.2.2 hY).1 (by omega)
  have e3 : Y * 2 ^ ((n - k) + 1).toNat = 2 * Y * 2 ^ (n - k).toNat := by
    rw [show ((n - k) + 1).toNat = (n - k).toNat + 1 by omega, Int.pow_succ]; grind
  have := h1.2.1
  have t0 : t = 0 := by
    rw [e.symm] at a1
    unfold M256 at *
    omega
  subst t0
  refine ⟨by rw [← e]; omega, by rw [e3]; omega⟩
theorem shift_lt {Y n k : Int} (hY : 0 < Y) (h2 : LenOf Y k) (hn : n ≤ 256) : n - k < 256 := by
  have := (h2.2.2.2 hY).2; omega
theorem divM_start {A Y V s : Int} (hV : V = Y * 2 ^ s.toNat ∧ A < Y * 2 ^ (s + 1).toNat) : DivM A Y 0 A V s :=
  ⟨by omega, hV.2, ⟨0, by omega, by simp⟩, fun _ => hV.1⟩
theorem divM_yes {A Y Q R V S V' bit : Int} (h : DivM A Y Q R V bit) (h0 : 0 ≤ bit) (hs : S + V = R + M256 * 0) (hv : V' = V / 2) : DivM A Y (Q + 2 ^ bit.toNat) S V' (bit - 1) := by
  obtain ⟨e, hr, ⟨t, ht, hq⟩, hd⟩ := h
  have hV := hd h0
  have ee : (bit + 1).toNat = bit.toNat + 1 := by omega
  rw [ee, Int.pow_succ] at hr hq
  have e1 : (bit - 1 + 1).toNat = bit.toNat := by omega
  unfold DivM
  rw [e1]
  refine ⟨?_, ?_, ⟨2 * t + 1, by omega, by rw [hq]; grind⟩, fun hb => ?_⟩
  · rw [Int.add_mul, Int.mul_comm (2 ^ bit.toNat) Y, ← hV, e]; omega
  · have : Y * (2 ^ bit.toNat * 2) = V * 2 := by rw [hV]; grind
    rw [← hV]; omega
  · have : bit.toNat = (bit - 1).toNat + 1 := by omega
    rw [this, Int.pow_succ] at hV
    have : V = 2 * (Y * 2 ^ (bit - 1).toNat) := by rw [hV]; grind
    rw [hv, this]; omega
theorem divM_no {A Y Q R V S V' bit : Int} (h : DivM A Y Q R V bit) (h0 : 0 ≤ bit) (hS : S < M256) (hs : S + V = R + M256 * 1) (hv : V' = V / 2) : DivM A Y Q R V' (bit - 1) := by
  obtain ⟨e, hr, ⟨t, ht, hq⟩, hd⟩ := h
  have hV := hd h0
  have ee : (bit + 1).toNat = bit.toNat + 1 := by omega
  rw [ee, Int.pow_succ] at hr hq
  have e1 : (bit - 1 + 1).toNat = bit.toNat := by omega
  unfold DivM
  rw [e1]
  refine ⟨e, ?_, ⟨2 * t, by omega, by rw [hq]; grind⟩, fun hb => ?_⟩
  · rw [← hV]; omega
  · have : bit.toNat = (bit - 1).toNat + 1 := by omega
    rw [this, Int.pow_succ] at hV
    have : V = 2 * (Y * 2 ^ (bit - 1).toNat) := by rw [hV]; grind
    rw [hv, this]; omega
theorem divM_end {A Y Q R V : Int} (h : DivM A Y Q R V (-1)) : A = Q * Y + R ∧ R < Y := by
  obtain ⟨e, hr, -, -⟩ := h
  exact ⟨e, by simpa using hr⟩

/-- one limb of a multiple of 2^(64 i + r + 1) -/
theorem limb_mult (q rest t : Int) (hq : In1 q) (r : Nat) (hr : r < 64) (e : q + 18446744073709551616 * rest = 2 ^ (r + 1) * t) : ∃ q', 0 ≤ q' ∧ q = 2 ^ (r + 1) * q' := by
  have hPR : (2 : Int) ^ (r + 1) * 2 ^ (63 - r) = 18446744073709551616 := by
    rw [← Int.pow_add, show r + 1 + (63 - r) = 64 by omega]; rfl
  have hP : (0 : Int) < 2 ^ (r + 1) := Int.pow_pos (by omega)
  have hR : (0 : Int) < 2 ^ (63 - r) := Int.pow_pos (by omega)
  unfold In1 at hq
  refine ⟨t % 2 ^ (63 - r), Int.emod_nonneg _ (by omega), ?_⟩
  have h1 : q = (2 ^ (r + 1) * t) % 18446744073709551616 := by rw [← e]; omega
  rw [h1, ← hPR, Int.mul_emod_mul_of_pos _ _ hP]
theorem or_bit (q q' : Int) (hq : In1 q) (r : Nat) (hr : r < 64) (h0 : 0 ≤ q') (e : q = 2 ^ (r + 1) * q') : bits .or .u64 q (2 ^ r) = q + 2 ^ r ∧ In1 (q + 2 ^ r) := by
  have hp : (0 : Int) < 2 ^ r := Int.pow_pos (by omega)
  have hp1 : (2 : Int) ^ (r + 1) = 2 ^ r * 2 := Int.pow_succ ..
  have hle : (2 : Int) ^ r ≤ 2 ^ 63 := pow_mono (by omega)
  rw [show (2 : Int) ^ 63 = 9223372036854775808 from rfl] at hle
  unfold In1 at *
  refine ⟨orU (r + 1) q q' (2 ^ r) e h0 (by omega) (by omega) hq.2 (by omega), by omega, ?_⟩
  -- q is a multiple of 2^(r+1) below 2^64, itself a multiple of 2^(r+1)
  have hPR : (2 : Int) ^ (r + 1) * 2 ^ (63 - r) = 18446744073709551616 := by
    rw [← Int.pow_add, show r + 1 + (63 - r) = 64 by omega]; rfl
  have hP : (0 : Int) < 2 ^ (r + 1) := Int.pow_pos (by omega)
  have : q' < 2 ^ (63 - r) := by
    apply Int.lt_of_mul_lt_mul_left (a := 2 ^ (r + 1)) _ (by omega)
    rw [hPR, ← e]; exact hq.2
  have m : (2 : Int) ^ (r + 1) * (q' + 1) ≤ 2 ^ (r + 1) * 2 ^ (63 - r) := Int.mul_le_mul_of_nonneg_left (by omega) (by omega)
  rw [hPR, Int.mul_add, Int.mul_one, ← e] at m
  omega
theorem limb_at0 {A Y q0 q1 q2 q3 R V bit : Int} {r : Nat} (h : DivM A Y (V4 q0 q1 q2 q3) R V bit) (hq : In4 q0 q1 q2 q3) (_h0 : 0 ≤ bit) (hi : bit / 64 = 0) (hr : bit % 64 = (r : Int)) :
    bits .or .u64 q0 (2 ^ r) = q0 + 2 ^ r ∧ In4 (q0 + 2 ^ r) q1 q2 q3 ∧ V4 (q0 + 2 ^ r) q1 q2 q3 = V4 q0 q1 q2 q3 + 2 ^ bit.toNat := by
  obtain ⟨-, -, ⟨t, ht, e⟩, -⟩ := h
  have hr64 : r < 64 := by omega
  have e1 : (bit + 1).toNat = 64 * 0 + (r + 1) := by omega
  have e2 : bit.toNat = 64 * 0 + r := by omega
  have p1 : (2 : Int) ^ (64 * 0) = 1 := by decide
  rw [e1, Int.pow_add, p1, Int.mul_assoc] at e
  have hl : q0 + 18446744073709551616 * (q1 + q2 * 18446744073709551616 + q3 * 340282366920938463463374607431768211456) = 2 ^ (r + 1) * t := by
    have hq' := hq
    unfold In4 In1 at hq'; unfold V4 at e
    generalize (2 : Int) ^ (r + 1) * t = m at *
    omega
  obtain ⟨q', h1, h2⟩ := limb_mult q0 _ t hq.1 r hr64 hl
  obtain ⟨b1, b2⟩ := or_bit q0 q' hq.1 r hr64 h1 h2
  refine ⟨b1, ?_, ?_⟩
  · unfold In4 at *; refine ⟨?_, ?_, ?_, ?_⟩ <;> first | exact b2 | exact hq.1 | exact hq.2.1 | exact hq.2.2.1 | exact hq.2.2.2
  · rw [e2, Int.pow_add, p1]; unfold V4; omega
theorem limb_at1 {A Y q0 q1 q2 q3 R V bit : Int} {r : Nat} (h : DivM A Y (V4 q0 q1 q2 q3) R V bit) (hq : In4 q0 q1 q2 q3) (_h0 : 0 ≤ bit) (hi : bit / 64 = 1) (hr : bit % 64 = (r : Int)) :
    bits .or .u64 q1 (2 ^ r) = q1 + 2 ^ r ∧ In4 q0 (q1 + 2 ^ r) q2 q3 ∧ V4 q0 (q1 + 2 ^ r) q2 q3 = V4 q0 q1 q2 q3 + 2 ^ bit.toNat := by
  obtain ⟨-, -, ⟨t, ht, e⟩, -⟩ := h
  have hr64 : r < 64 := by omega
  have e1 : (bit + 1).toNat = 64 * 1 + (r + 1) := by omega
  have e2 : bit.toNat = 64 * 1 + r := by omega
  have p1 : (2 : Int) ^ (64 * 1) = 18446744073709551616 := by decide
  rw [e1, Int.pow_add, p1, Int.mul_assoc] at e
  have hl : q1 + 18446744073709551616 * (q2 + q3 * 18446744073709551616) = 2 ^ (r + 1) * t := by
    have hq' := hq
    unfold In4 In1 at hq'; unfold V4 at e
    generalize (2 : Int) ^ (r + 1) * t = m at *
    omega
  obtain ⟨q', h1, h2⟩ := limb_mult q1 _ t hq.2.1 r hr64 hl
  obtain ⟨b1, b2⟩ := or_bit q1 q' hq.2.1 r hr64 h1 h2
  refine ⟨b1, ?_, ?_⟩
  · unfold In4 at *; refine ⟨?_, ?_, ?_, ?_⟩ <;> first | exact b2 | exact hq.1 | exact hq.2.1 | exact hq.2.2.1 | exact hq.2.2.2
  · rw [e2, Int.pow_add, p1]; unfold V4; omega
theorem limb_at2 {A Y q0 q1 q2 q3 R V bit : Int} {r : Nat} (h : DivM A Y (V4 q0 q1 q2 q3) R V bit) (hq : In4 q0 q1 q2 q3) (_h0 : 0 ≤ bit) (hi : bit / 64 = 2) (hr : bit % 64 = (r : Int)) :
    bits .or .u64 q2 (2 ^ r) = q2 + 2 ^ r ∧ In4 q0 q1 (q2 + 2 ^ r) q3 ∧ V4 q0 q1 (q2 + 2 ^ r) q3 = V4 q0 q1 q2 q3 + 2 ^ bit.toNat := by
  obtain ⟨-, -, ⟨t, ht, e⟩, -⟩ := h
  have hr64 : r < 64 := by omega
  have e1 : (bit + 1).toNat = 64 * 2 + (r + 1) := by omega
  have e2 : bit.toNat = 64 * 2 + r := by omega
  have p1 : (2 : Int) ^ (64 * 2) = 340282366920938463463374607431768211456 := by decide
  rw [e1, Int.pow_add, p1, Int.mul_assoc] at e
  have hl : q2 + 18446744073709551616 * (q3) = 2 ^ (r + 1) * t := by
    have hq' := hq
    unfold In4 In1 at hq'; unfold V4 at e
    generalize (2 : Int) ^ (r + 1) * t = m at *
    omega
  obtain ⟨q', h1, h2⟩ := limb_mult q2 _ t hq.2.2.1 r hr64 hl
  obtain ⟨b1, b2⟩ := or_bit q2 q' hq.2.2.1 r hr64 h1 h2
  refine ⟨b1, ?_, ?_⟩
  · unfold In4 at *; refine ⟨?_, ?_, ?_, ?_⟩ <;> first | exact b2 | exact hq.1 | exact hq.2.1 | exact hq.2.2.1 | exact hq.2.2.2
  · rw [e2, Int.pow_add, p1]; unfold V4; omega
theorem limb_at3 {A Y q0 q1 q2 q3 R V bit : Int} {r : Nat} (h : DivM A Y (V4 q0 q1 q2 q3) R V bit) (hq : In4 q0 q1 q2 q3) (_h0 : 0 ≤ bit) (hi : bit / 64 = 3) (hr : bit % 64 = (r : Int)) :
    bits .or .u64 q3 (2 ^ r) = q3 + 2 ^ r ∧ In4 q0 q1 q2 (q3 + 2 ^ r) ∧ V4 q0 q1 q2 (q3 + 2 ^ r) = V4 q0 q1 q2 q3 + 2 ^ bit.toNat := by
  obtain ⟨-, -, ⟨t, ht, e⟩, -⟩ := h
  have hr64 : r < 64 := by omega
  have e1 : (bit + 1).toNat = 64 * 3 + (r + 1) := by omega
  have e2 : bit.toNat = 64 * 3 + r := by omega
  have p1 : (2 : Int) ^ (64 * 3) = 6277101735386680763835789423207666416102355444464034512896 := by decide
  rw [e1, Int.pow_add, p1, Int.mul_assoc] at e
  have hl : q3 + 18446744073709551616 * (0) = 2 ^ (r + 1) * t := by
    have hq' := hq
    unfold In4 In1 at hq'; unfold V4 at e
    generalize (2 : Int) ^ (r + 1) * t = m at *
    omega
  obtain ⟨q', h1, h2⟩ := limb_mult q3 _ t hq.2.2.2 r hr64 hl
  obtain ⟨b1, b2⟩ := or_bit q3 q' hq.2.2.2 r hr64 h1 h2
  refine ⟨b1, ?_, ?_⟩
  · unfold In4 at *; refine ⟨?_, ?_, ?_, ?_⟩ <;> first | exact b2 | exact hq.1 | exact hq.2.1 | exact hq.2.2.1 | exact hq.2.2.2
  · rw [e2, Int.pow_add, p1]; unfold V4; omega
end Go.Proofs.Ytpockemjfbaheaa
