/-
  Contracts: math/bits.Len64, wide.length.
-/
import Derived.Test.YtojfggnimmaemaaHalfMath
import Derived.Lib.BitFns
namespace Go.Proofs.Ytojfggnimmaemaa
open Go.RowKit

/-- n is the number of bits of x -/
def LenOf (x n : Int) : Prop := 0 ≤ n ∧ x < 2 ^ n.toNat ∧ (x = 0 → n = 0) ∧ (0 < x → 2 ^ n.toNat ≤ 2 * x ∧ 1 ≤ n)

theorem lenOf_shift (x b : Int) (k : Nat) (h : x / 2 ^ k = b) (hb : 0 < b) (n : Int) (hn : LenOf b n) : LenOf x ((k : Int) + n) := by
  obtain ⟨h0, h1, h2, h3⟩ := hn
  have hk : (0 : Int) < 2 ^ k := Int.pow_pos (by omega)
  have e : ((k : Int) + n).toNat = k + n.toNat := by omega
  have hx := Int.mul_ediv_add_emod x (2 ^ k)
  have hr := Int.emod_lt_of_pos x hk
  have hr0 := Int.emod_nonneg x (by omega : (2 : Int) ^ k ≠ 0)
  rw [h] at hx
  unfold LenOf
  rw [e, Int.pow_add]
  have h4 := (h3 hb).1
  have m1 : (2 : Int) ^ k * (b + 1) ≤ 2 ^ k * 2 ^ n.toNat := Int.mul_le_mul_of_nonneg_left (by omega) (by omega)
  have m2 : (2 : Int) ^ k * 2 ^ n.toNat ≤ 2 ^ k * (2 * b) := Int.mul_le_mul_of_nonneg_left h4 (by omega)
  have m3 : (2 : Int) ^ k * 1 ≤ 2 ^ k * b := Int.mul_le_mul_of_nonneg_left (by omega) (by omega)
  rw [Int.mul_add] at m1
  have e2 : (2 : Int) ^ k * (2 * b) = 2 * (2 ^ k * b) := by grind
  rw [e2] at m2
  generalize (2 : Int) ^ k * b = kb at *
  generalize (2 : Int) ^ k * 2 ^ n.toNat = kn at *
  have := (h3 hb).2
  refine ⟨by omega, by omega, fun h => by omega, fun _ => ⟨by omega, by omega⟩⟩

theorem tab_size : Lib.len8tab.size = 256 := by decide +kernel
theorem tab_len : ∀ b : Fin 256, 0 ≤ (((Lib.len8tab[b.val]'(by rw [tab_size]; exact b.2)).toNat : Nat) : Int) ∧ (((b.val : Nat) : Int) < 2 ^ (((Lib.len8tab[b.val]'(by rw [tab_size]; exact b.2)).toNat : Nat) : Int).toNat) ∧ (((b.val : Nat) : Int) = 0 → (((Lib.len8tab[b.val]'(by rw [tab_size]; exact b.2)).toNat : Nat) : Int) = 0) ∧ ((0 : Int) < ((b.val : Nat) : Int) → (2 : Int) ^ (((Lib.len8tab[b.val]'(by rw [tab_size]; exact b.2)).toNat : Nat) : Int).toNat ≤ 2 * ((b.val : Nat) : Int) ∧ 1 ≤ (((Lib.len8tab[b.val]'(by rw [tab_size]; exact b.2)).toNat : Nat) : Int)) := by decide +kernel
theorem tab_le : ∀ b : Fin 256, (Lib.len8tab[b.val]'(by rw [tab_size]; exact b.2)).toNat ≤ 8 := by decide +kernel

theorem len_close (x b : Int) (k : Nat) (K : Int) (hK : K = (k : Int)) (hk : k ≤ 56) (hb : x / 2 ^ k = b) (h : 0 < b ∨ k = 0) (h0 : 0 ≤ b) (h256 : b < 256) (hi : b.toNat < Lib.len8tab.size) :
    Hid (LenOf x (wrap64 (K + wrap64 (((Lib.len8tab[b.toNat]'hi).toNat : Nat) : Int))) ∧ wrap64 (K + wrap64 (((Lib.len8tab[b.toNat]'hi).toNat : Nat) : Int)) ≤ 64) := by
  subst hK
  have t : LenOf ((b.toNat : Nat) : Int) (((Lib.len8tab[b.toNat]'hi).toNat : Nat) : Int) := tab_len ⟨b.toNat, by omega⟩
  have l : (Lib.len8tab[b.toNat]'hi).toNat ≤ 8 := tab_le ⟨b.toNat, by omega⟩
  rw [Int.toNat_of_nonneg h0] at t
  generalize (Lib.len8tab[b.toNat]'hi).toNat = n at *
  have e1 : wrap64 (n : Int) = n := IntWalk.wrap64_in _ ⟨by omega, by omega⟩
  have e2 : wrap64 ((k : Int) + (n : Int)) = (k : Int) + (n : Int) := IntWalk.wrap64_in _ ⟨by omega, by omega⟩
  rw [e1, e2]
  refine ⟨?_, by omega⟩
  rcases h with h | h
  · exact lenOf_shift x b k hb h n t
  · subst h
    have : x = b := by simpa using hb
    subst this
    rw [show ((0 : Nat) : Int) + (n : Int) = (n : Int) by omega]
    exact t

def LenP (x : Int) (w : World) (e : Ending) (w' : World) : Prop := ∃ n : Int, Hid (LenOf x n ∧ n ≤ 64) ∧ e = .returned (.int .i64 n) ∧ w = w'

set_option maxHeartbeats 4000000 in
set_option maxRecDepth 100000 in
theorem len64_c (x : Int) (hx : In1 x) (w : World) :
    Calls Try.prog 117 #[.int .u64 x] w (LenP x w) := by
  unfold In1 at hx
  obtain ⟨h0, h1⟩ := hx
  have hs : (256 : Int) ≤ ((Lib.len8tab.size : Nat) : Int) := by decide
  go_enter Try.func117, Try.ntmps117
  go_wp2
  all_goals go_ret
  all_goals refine ⟨_, ?_, rfl, rfl⟩
  · exact len_close x _ 56 56 rfl (by omega) (by rw [show (2 : Int) ^ 56 = 72057594037927936 from rfl] <;> omega) (by omega) (by omega) (by omega) _
  · exact len_close x _ 48 48 rfl (by omega) (by rw [show (2 : Int) ^ 48 = 281474976710656 from rfl] <;> omega) (by omega) (by omega) (by omega) _
  · exact len_close x _ 40 40 rfl (by omega) (by rw [show (2 : Int) ^ 40 = 1099511627776 from rfl] <;> omega) (by omega) (by omega) (by omega) _
  · exact len_close x _ 32 32 rfl (by omega) (by rw [show (2 : Int) ^ 32 = 4294967296 from rfl] <;> omega) (by omega) (by omega) (by omega) _
  · exact len_close x _ 24 24 rfl (by omega) (by rw [show (2 : Int) ^ 24 = 16777216 from rfl] <;> omega) (by omega) (by omega) (by omega) _
  · exact len_close x _ 16 16 rfl (by omega) (by rw [show (2 : Int) ^ 16 = 65536 from rfl] <;> omega) (by omega) (by omega) (by omega) _
  · exact len_close x _ 8 8 rfl (by omega) (by rw [show (2 : Int) ^ 8 = 256 from rfl] <;> omega) (by omega) (by omega) (by omega) _
  · have q := len_close x x 0 0 rfl (by omega) (by simp) (by omega) (by omega) (by omega) (by rw [tab_size]; omega)
    simpa only [Int.zero_add] using q

def LenWP (V : Int) (w : World) (e : Ending) (w' : World) : Prop := ∃ n : Int, Hid (LenOf V n ∧ n ≤ 256) ∧ e = .returned (.int .i64 n) ∧ Below w.heap.size w w'

theorem len_limb {V x : Int} {k : Nat} {n : Int} (h : V / 2 ^ k = x) (hx : x ≠ 0) (h0 : 0 ≤ x) (hn : LenOf x n) : LenOf V ((k : Int) + n) := lenOf_shift V x k h (by omega) n hn

set_option maxHeartbeats 2000000 in
set_option maxRecDepth 100000 in
theorem length_a (a : Int) (hA : In4 a 0 0 0) (hne : a ≠ 0) (w : World) :
    Calls Try.prog 114 #[(.agg #[.int .u64 a, .int .u64 0, .int .u64 0, .int .u64 0])] w (LenWP (V4 a 0 0 0) w) := by
  have HA := hid_mk hA
  have HN := hid_mk hne
  have e : (a != 0) = true := by simpa using hne
  clear hA hne
  go_enter Try.func114, Try.ntmps114
  go_wp2
  refine wp_loop_rounds 5 ?_
  rw [rounds_succ]
  go_wp2
  rw [rounds_succ]
  go_wp2
  rw [rounds_succ]
  go_wp2
  rw [rounds_succ]
  go_wp2_with fail
  refine (len64_c a HA.out.1 _).mono ?_
  rintro e1 w1 ⟨n, hn, rfl, rfl⟩
  have hn1 : 0 ≤ n := hn.out.1.1
  have hn2 : n ≤ 64 := hn.out.2
  go_wp2
  go_ret
  refine ⟨_, ?_, rfl, by repeat (first | (with_reducible exact Below.refl _ _) | (with_reducible refine bl_alloc ?_ _) | (with_reducible refine Below.drew ?_) | (with_reducible refine below_drewN' ?_ _) | ((with_reducible refine bl_set ?_ ?_ _); (rotate_left; (dsimp only; omega))))⟩
  have q := len_limb (V := V4 a 0 0 0) (x := a) (k := 0) (by have := HA.out; unfold In4 In1 at this; unfold V4; simp <;> omega) HN.out HA.out.1.1 hn.out.1
  refine ⟨by simpa using q, by omega⟩

set_option maxHeartbeats 2000000 in
set_option maxRecDepth 100000 in
theorem length_b (a b : Int) (hA : In4 a b 0 0) (hne : b ≠ 0) (w : World) :
    Calls Try.prog 114 #[(.agg #[.int .u64 a, .int .u64 b, .int .u64 0, .int .u64 0])] w (LenWP (V4 a b 0 0) w) := by
  have HA := hid_mk hA
  have HN := hid_mk hne
  have e : (b != 0) = true := by simpa using hne
  clear hA hne
  go_enter Try.func114, Try.ntmps114
  go_wp2
  refine wp_loop_rounds 5 ?_
  rw [rounds_succ]
  go_wp2
  rw [rounds_succ]
  go_wp2
  rw [rounds_succ]
  go_wp2_with fail
  refine (len64_c b HA.out.2.1 _).mono ?_
  rintro e1 w1 ⟨n, hn, rfl, rfl⟩
  have hn1 : 0 ≤ n := hn.out.1.1
  have hn2 : n ≤ 64 := hn.out.2
  go_wp2
  go_ret
  refine ⟨_, ?_, rfl, by repeat (first | (with_reducible exact Below.refl _ _) | (with_reducible refine bl_alloc ?_ _) | (with_reducible refine Below.drew ?_) | (with_reducible refine below_drewN' ?_ _) | ((with_reducible refine bl_set ?_ ?_ _); (rotate_left; (dsimp only; omega))))⟩
  have q := len_limb (V := V4 a b 0 0) (x := b) (k := 64) (by have := HA.out; unfold In4 In1 at this; unfold V4; rw [show (2 : Int) ^ 64 = 18446744073709551616 from rfl] <;> omega) HN.out HA.out.2.1.1 hn.out.1
  refine ⟨q, by omega⟩

set_option maxHeartbeats 2000000 in
set_option maxRecDepth 100000 in
theorem length_c' (a b c : Int) (hA : In4 a b c 0) (hne : c ≠ 0) (w : World) :
    Calls Try.prog 114 #[(.agg #[.int .u64 a, .int .u64 b, .int .u64 c, .int .u64 0])] w (LenWP (V4 a b c 0) w) := by
  have HA := hid_mk hA
  have HN := hid_mk hne
  have e : (c != 0) = true := by simpa using hne
  clear hA hne
  go_enter Try.func114, Try.ntmps114
  go_wp2
  refine wp_loop_rounds 5 ?_
  rw [rounds_succ]
  go_wp2
  rw [rounds_succ]
  go_wp2_with fail
  refine (len64_c c HA.out.2.2.1 _).mono ?_
  rintro e1 w1 ⟨n, hn, rfl, rfl⟩
  have hn1 : 0 ≤ n := hn.out.1.1
  have hn2 : n ≤ 64 := hn.out.2
  go_wp2
  go_ret
  refine ⟨_, ?_, rfl, by repeat (first | (with_reducible exact Below.refl _ _) | (with_reducible refine bl_alloc ?_ _) | (with_reducible refine Below.drew ?_) | (with_reducible refine below_drewN' ?_ _) | ((with_reducible refine bl_set ?_ ?_ _); (rotate_left; (dsimp only; omega))))⟩
  have q := len_limb (V := V4 a b c 0) (x := c) (k := 128) (by have := HA.out; unfold In4 In1 at this; unfold V4; rw [show (2 : Int) ^ 128 = 340282366920938463463374607431768211456 from rfl] <;> omega) HN.out HA.out.2.2.1.1 hn.out.1
  refine ⟨q, by omega⟩

set_option maxHeartbeats 2000000 in
set_option maxRecDepth 100000 in
theorem length_d (a b c d : Int) (hA : In4 a b c d) (hne : d ≠ 0) (w : World) :
    Calls Try.prog 114 #[(.agg #[.int .u64 a, .int .u64 b, .int .u64 c, .int .u64 d])] w (LenWP (V4 a b c d) w) := by
  have HA := hid_mk hA
  have HN := hid_mk hne
  have e : (d != 0) = true := by simpa using hne
  clear hA hne
  go_enter Try.func114, Try.ntmps114
  go_wp2
  refine wp_loop_rounds 5 ?_
  rw [rounds_succ]
  go_wp2_with fail
  refine (len64_c d HA.out.2.2.2 _).mono ?_
  rintro e1 w1 ⟨n, hn, rfl, rfl⟩
  have hn1 : 0 ≤ n := hn.out.1.1
  have hn2 : n ≤ 64 := hn.out.2
  go_wp2
  go_ret
  refine ⟨_, ?_, rfl, by repeat (first | (with_reducible exact Below.refl _ _) | (with_reducible refine bl_alloc ?_ _) | (with_reducible refine Below.drew ?_) | (with_reducible refine below_drewN' ?_ _) | ((with_reducible refine bl_set ?_ ?_ _); (rotate_left; (dsimp only; omega))))⟩
  have q := len_limb (V := V4 a b c d) (x := d) (k := 192) (by have := HA.out; unfold In4 In1 at this; unfold V4; rw [show (2 : Int) ^ 192 = 6277101735386680763835789423207666416102355444464034512896 from rfl] <;> omega) HN.out HA.out.2.2.2.1 hn.out.1
  refine ⟨q, by omega⟩

set_option maxHeartbeats 2000000 in
set_option maxRecDepth 100000 in
theorem length_zero (w : World) : Calls Try.prog 114 #[(.agg #[.int .u64 0, .int .u64 0, .int .u64 0, .int .u64 0])] w (LenWP (V4 0 0 0 0) w) := by
  go_enter Try.func114, Try.ntmps114
  go_wp2
  refine wp_loop_rounds 5 ?_
  iterate 5 (rw [rounds_succ]; go_wp2)
  go_ret
  refine ⟨0, ?_, rfl, by repeat (first | (with_reducible exact Below.refl _ _) | (with_reducible refine bl_alloc ?_ _) | (with_reducible refine Below.drew ?_) | (with_reducible refine below_drewN' ?_ _) | ((with_reducible refine bl_set ?_ ?_ _); (rotate_left; (dsimp only; omega))))⟩
  rw [v4_zero0]; unfold Hid LenOf; decide

theorem length_c (a b c d : Int) (hA : In4 a b c d) (w : World) :
    Calls Try.prog 114 #[(.agg #[.int .u64 a, .int .u64 b, .int .u64 c, .int .u64 d])] w (LenWP (V4 a b c d) w) := by
  by_cases hd : d = 0
  · by_cases hc : c = 0
    · by_cases hb : b = 0
      · by_cases ha : a = 0
        · subst ha hb hc hd; exact length_zero w
        · subst hb hc hd; exact length_a a hA ha w
      · subst hc hd; exact length_b a b hA hb w
    · subst hd; exact length_c' a b c hA hc w
  · exact length_d a b c d hA hd w
end Go.Proofs.Ytojfggnimmaemaa
