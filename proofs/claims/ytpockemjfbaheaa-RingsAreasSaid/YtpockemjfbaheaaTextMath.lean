/-
  Plain facts on decimal texts.
-/
import Derived.Test.YtpockemjfbaheaaTwoMath
namespace Go.Proofs.Ytpockemjfbaheaa
open Go.RowKit

/-- decimal digits of n, the first one first; none for 0 -/
def digs : Nat → Nat → List Int
  | 0, _ => []
  | f + 1, n => if n = 0 then [] else digs f (n / 10) ++ [48 + ((n % 10 : Nat) : Int)]
/-- a number's text -/
def textOf (m : Bool) (n : Nat) : List Int := if n = 0 then [48] else (if m then [45] else []) ++ digs 80 n

theorem digs_fuel : ∀ (f n : Nat), n < 10 ^ f → ∀ g, f ≤ g → digs g n = digs f n
  | 0, n, h, g, _ => by
    have : n = 0 := by simpa using h
    subst this
    cases g <;> simp [digs]
  | f + 1, n, h, g, hg => by
    obtain ⟨k, rfl⟩ := Nat.exists_eq_add_of_le hg
    rw [show f + 1 + k = (f + k) + 1 by omega]
    simp only [digs]
    split
    · rfl
    · rw [digs_fuel f (n / 10) (by rw [Nat.pow_succ] at h; omega) (f + k) (by omega)]
theorem digs_length : ∀ (f n : Nat), (digs f n).length ≤ f
  | 0, n => by simp [digs]
  | f + 1, n => by
    simp only [digs]
    split
    · simp
    · have := digs_length f (n / 10)
      simp; omega
theorem digs_le (k n : Nat) (h : n < 10 ^ k) (hk : k ≤ 80) : (digs 80 n).length ≤ k := by
  rw [digs_fuel k n h 80 hk]; exact digs_length k n
theorem digs_step (n : Nat) (h0 : n ≠ 0) (h : n < 10 ^ 79) : digs 80 n = digs 80 (n / 10) ++ [48 + ((n % 10 : Nat) : Int)] := by
  have e : digs 80 n = digs 79 (n / 10) ++ [48 + ((n % 10 : Nat) : Int)] := by
    show (if n = 0 then [] else digs 79 (n / 10) ++ [48 + ((n % 10 : Nat) : Int)]) = _
    rw [if_neg h0]
  rw [e, digs_fuel 79 (n / 10) (by omega) 80 (by omega)]
theorem m256_lt : M256 < 10 ^ 78 := by decide +kernel

end Go.Proofs.Ytpockemjfbaheaa
