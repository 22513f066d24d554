/-
  Contracts: math/bits.Len64, wide.length.
-/
import Derived.Test.YtpockemjfbaheaaHalfMath
import Derived.Lib.BitFns
namespace Go.Proofs.Ytpockemjfbaheaa
open Go.RowKit

/-- n is the number of bits of x -/
def LenOf (x n : Int) : Prop := 0 ≤ n ∧ x < 2 ^ n.toNat ∧ (x = 0 → n = 0) ∧ (0 < x → 2 ^ n.toNat ≤ 2 * x ∧ 1 ≤ n)

theorem lenOf_shift (x b : Int) (k : Nat) (h : x / 2 ^ k = b) (hb : 0 < b) (n : Int) (hn : LenOf b n) : LenOf x ((k : Int) + n) := by
  obtain ⟨h0, h1, h2, h3⟩ := hn
  have hk : (0 : Int) < 2 ^ k := Int.pow_pos (by omega)
  have e : ((k : Int) + n).toNat = k + n.toNat := by omega
  have hx := Int.mul_ediv_add_emod x (2 ^ k)
  have hr := Int.emod_lt_of_pos x hk
  have hr0 := Int.emod_nonneg x (by omega : (2 : Int) ^ k ≠ 0)
  rw [h] at hx
  unfold LenOf
  rw [e, Int.pow_add]
  have h4 := (h3 hb).1
  have m1 : (2 : Int) ^ k * (b + 1) ≤ 2 ^ k * 2 ^ n.toNat := Int.mul_le_mul_of_nonneg_left (by omega) (by omega)
  have m2 : (2 : Int) ^ k * 2 ^ n.toNat ≤ 2 ^ k * (2 * b) := Int.mul_le_mul_of_nonneg_left h4 (by omega)
  have m3 : (2 : Int) ^ k * 1 ≤ 2 ^ k * b := Int.mul_le_mul_of_nonneg_left (by omega) (by omega)
  rw [Int.mul_add] at m1
  have e2 : (2 : Int) ^ k * (2 * b) = 2 * (2 ^ k * b) := by grind
  rw [e2] at m2
  generalize (2 : Int) ^ k * b = kb at *
  generalize (2 : Int) ^ k * 2 ^ n.toNat = kn at *
  have := (h3 hb).2
  refine ⟨by omega, by omega, fun h => by omega, fun _ => ⟨by omega, by omega⟩⟩

theorem tab_size : Lib.len8tab.size = 256 := by decide +kernel
theorem tab_len : ∀ b : Fin 256, 0 ≤ (((Lib.len8tab[b.val]'(by rw [tab_size]; exact b.2)).toNat : Nat) : Int) ∧ (((b.val : Nat) : Int) < 2 ^ (((Lib.len8tab[b.val]'(by rw [tab_size]; exact b.2)).toNat : Nat) : Int).toNat) ∧ (((b.val : Nat) : Int) = 0 → (((Lib.len8tab[b.val]'(by rw [tab_size]; exact b.2)).toNat : Nat) : Int) = 0) ∧ ((0 : Int) < ((b.val : Nat) : Int) → (2 : Int) ^ (((Lib.len8tab[b.val]'(by rw [tab_size]; exact b.2)).toNat : Nat) : Int).toNat ≤ 2 * ((b.val : Nat) : Int) ∧ 1 ≤ (((Lib.len8tab[b.val]'(by rw [tab_size]; exact b.2)).toNat : Nat) : Int)) := by decide +kernel
theorem tab_le : ∀ b : Fin 256, (Lib.len8tab[b.val]'(by rw [tab_size]; exact b.2)).toNat ≤ 8 := by decide +kernel

theorem len_close (x b : Int) (k : Nat) (K : Int) (hK : K = (k : Int)) (hk : k ≤ 56) (hb : x / 2 ^ k = b) (h : 0 < b ∨ k = 0) (h0 : 0 ≤ b) (h256 : b < 256) (hi : b.toNat < Lib.len8tab.size) :
    Hid (LenOf x (wrap64 (K + wrap64 (((Lib.len8tab[b.toNat]'hi).toNat : Nat) : Int))) ∧ wrap64 (K + wrap64 (((Lib.len8tab[b.toNat]'hi).toNat : Nat) : Int)) ≤ 64) := by
  subst hK
  have t : LenOf ((b.toNat : Nat) : Int) (((Lib.len8tab[b.toNat]'hi).toNat : Nat) : Int) := tab_len ⟨b.toNat, by omega⟩
  have l : (Lib.len8tab[b.toNat]'hi).toNat ≤ 8 := tab_le ⟨b.toNat, by omega⟩
  rw [Int.toNat_of_nonneg h0] at t
  generalize (Lib.len8tab[b.toNat]'hi).toNat = n at *
  have e1 : wrap64 (n : Int) = n := IntWalk.wrap64_in _ ⟨by omega, by omega⟩
  have e2 : wrap64 ((k : Int) + (n : Int)) = (k : Int) + (n : Int) := IntWalk.wrap64_in _ ⟨by omega, by omega⟩
  rw [e1, e2]
  refine ⟨?_, by omega⟩
  rcases h with h | h
  · exact lenOf_shift x b k hb h n t
  · subst h
    have : x = b := by simpa using hb
    subst this
    rw [show ((0 : Nat) : Int) + (n : Int) = (n : Int) by omega]
    exact t

def LenP (x : Int) (w : World) (e : Ending) (w' : World) : Prop := ∃ n : Int, Hid (LenOf x n ∧ n ≤ 64) ∧ e = .returned (.int .i64 n) ∧ w = w'

def LenWP (V : Int) (w : World) (e : Ending) (w' : World) : Prop := ∃ n : Int, Hid (LenOf V n ∧ n ≤ 256) ∧ e = .returned (.int .i64 n) ∧ Below w.heap.size w w'

theorem len_limb {V x : Int} {k : Nat} {n : Int} (h : V / 2 ^ k = x) (hx : x ≠ 0) (h0 : 0 ≤ x) (hn : LenOf x n) : LenOf V ((k : Int) + n) := lenOf_shift V x k h (by omega) n hn

end Go.Proofs.Ytpockemjfbaheaa
