/-
  Numbers by their digits to the base 65536: plain facts.
-/
import Derived.Test.YtkidphekfnmhhaaRefSize
namespace Go.Proofs.Ytkidphekfnmhhaa
open Go.RowKit

/-- the number of the n lowest digits -/
def dval (f : Nat → Int) : Nat → Int
  | 0 => 0
  | n + 1 => dval f n + f n * 65536 ^ n

theorem p16_pos (n : Nat) : (0 : Int) < 65536 ^ n := Int.pow_pos (by omega)
theorem p16_le {n k : Nat} (h : n ≤ k) : (65536 : Int) ^ n ≤ 65536 ^ k := by
  obtain ⟨d, rfl⟩ := Nat.exists_eq_add_of_le h
  rw [Int.pow_add]
  have h1 := p16_pos n
  have h2 := p16_pos d
  have h3 : (65536 : Int) ^ n * 1 ≤ 65536 ^ n * 65536 ^ d := Int.mul_le_mul_of_nonneg_left (by omega) (by omega)
  omega
theorem dval_bound {f : Nat → Int} (hf : ∀ j, 0 ≤ f j ∧ f j < 65536) : ∀ n, 0 ≤ dval f n ∧ dval f n < 65536 ^ n
  | 0 => by simp [dval]
  | n + 1 => by
    have h := dval_bound hf n
    have h2 := hf n
    have hp := p16_pos n
    have e1 : 0 ≤ f n * 65536 ^ n := Int.mul_nonneg h2.1 (by omega)
    have e2 : f n * 65536 ^ n ≤ 65535 * 65536 ^ n := Int.mul_le_mul_of_nonneg_right (by omega) (by omega)
    rw [Int.pow_succ]
    simp only [dval]
    omega
theorem dval_ext {f h : Nat → Int} : ∀ n, (∀ j, j < n → f j = h j) → dval f n = dval h n
  | 0, _ => rfl
  | n + 1, e => by simp only [dval]; rw [dval_ext n (fun j hj => e j (by omega)), e n (by omega)]
theorem dval_tail {f : Nat → Int} {n : Nat} (h : ∀ j, n ≤ j → f j = 0) : ∀ k, dval f (n + k) = dval f n
  | 0 => rfl
  | k + 1 => by rw [← Nat.add_assoc]; simp only [dval]; rw [dval_tail h k, h (n + k) (by omega)]; omega
theorem dval_ge {f : Nat → Int} {n k : Nat} (h : ∀ j, n ≤ j → f j = 0) (hk : n ≤ k) : dval f k = dval f n := by
  obtain ⟨d, rfl⟩ := Nat.exists_eq_add_of_le hk
  exact dval_tail h d
theorem dval_low {f : Nat → Int} (hf : ∀ j, 0 ≤ f j ∧ f j < 65536) {n : Nat} (hn : 0 < n) (ht : f (n - 1) ≠ 0) : 65536 ^ (n - 1) ≤ dval f n := by
  obtain ⟨m, rfl⟩ : ∃ m, n = m + 1 := ⟨n - 1, by omega⟩
  rw [Nat.add_sub_cancel] at ht ⊢
  have h1 := dval_bound hf m
  have h2 := hf m
  have hp := p16_pos m
  have e : 1 * (65536 : Int) ^ m ≤ f m * 65536 ^ m := Int.mul_le_mul_of_nonneg_right (by omega) (by omega)
  simp only [dval]
  omega
theorem dval_lt {f h : Nat → Int} (hf : ∀ j, 0 ≤ f j ∧ f j < 65536) (hh : ∀ j, 0 ≤ h j ∧ h j < 65536) (i : Nat) (hlt : f i < h i) : ∀ n, i < n → (∀ j, i < j → j < n → f j = h j) → dval f n < dval h n
  | 0, hi, _ => absurd hi (by omega)
  | n + 1, hi, he => by
    simp only [dval]
    by_cases e : i = n
    · subst e
      have h1 := dval_bound hf i
      have h2 := dval_bound hh i
      have hp := p16_pos i
      have e : (f i + 1) * (65536 : Int) ^ i ≤ h i * 65536 ^ i := Int.mul_le_mul_of_nonneg_right (by omega) (by omega)
      rw [Int.add_mul] at e
      omega
    · have := dval_lt hf hh i hlt n (by omega) (fun j a b => he j a (by omega))
      rw [he n (by omega) (by omega)]
      omega
theorem dval_len {f h : Nat → Int} (hf : ∀ j, 0 ≤ f j ∧ f j < 65536) (hh : ∀ j, 0 ≤ h j ∧ h j < 65536) {n k : Nat} (hk : n < k) (ht : h (k - 1) ≠ 0) : dval f n < dval h k := by
  have h1 := dval_bound hf n
  have h2 := dval_low hh (by omega) ht
  have h3 : (65536 : Int) ^ n ≤ 65536 ^ (k - 1) := p16_le (by omega)
  omega
theorem size_sign {f h : Nat → Int} {n k : Nat} {r : Int} (hf : ∀ j, 0 ≤ f j ∧ f j < 65536) (hh : ∀ j, 0 ≤ h j ∧ h j < 65536) (tf : n = 0 ∨ f (n - 1) ≠ 0) (th : k = 0 ∨ h (k - 1) ≠ 0) (hs : SizeIs f h n k r) :
    (r < 0 → dval f n < dval h k) ∧ (0 ≤ r → dval h k ≤ dval f n) := by
  rcases hs with ⟨h1, rfl⟩ | ⟨rfl, i, h1, h2, h3, rfl⟩ | ⟨rfl, h1, rfl⟩
  · constructor
    · intro h
      exact dval_len hf hh (by omega) (by rcases th with h | h; · omega
                                          · exact h)
    · intro h
      exact Int.le_of_lt (dval_len hh hf (by omega) (by rcases tf with h | h; · omega
                                                        · exact h))
  · constructor
    · intro h; exact dval_lt hf hh i (by omega) n h1 h3
    · intro h; exact Int.le_of_lt (dval_lt hh hf i (by omega) n h1 (fun j a b => (h3 j a b).symm))
  · rw [dval_ext n h1]
    exact ⟨fun h => absurd h (by omega), fun _ => Int.le_refl _⟩

def sg (m : Bool) : Int := if m then -1 else 1

/-- the digits of a Num, in memory: none nought behind -/
structure DigAt (W : World) (ad : Option Addr) (n cap : Nat) (f : Nat → Int) : Prop where
  bd : ∀ j, 0 ≤ f j ∧ f j < 65536
  hi : ∀ j, n ≤ j → f j = 0
  top : n = 0 ∨ f (n - 1) ≠ 0
  mem : n = 0 ∨ ∃ g, ad = some ⟨g, 0, none⟩ ∧ n ≤ cap ∧ cap ≤ 9223372036854775807 ∧ g < W.heap.size ∧ Hid (∀ j, j < n → W.cell? ⟨g, j, none⟩ = some (.int .i64 (f j)))
/-- v is a Num, and the number z -/
def NumIs (v : Value) (z : Int) (W : World) : Prop :=
  ∃ (m : Bool) (ad : Option Addr) (n cap : Nat) (f : Nat → Int), v = .agg #[.bool m, .slice ad n cap] ∧ DigAt W ad n cap f ∧ (n = 0 → m = false) ∧ z = sg m * dval f n
theorem DigAt.below {W W' : World} {ad : Option Addr} {n cap : Nat} {f : Nat → Int} (h : DigAt W ad n cap f) (hb : Below W.heap.size W W') : DigAt W' ad n cap f := by
  refine ⟨h.bd, h.hi, h.top, ?_⟩
  rcases h.mem with h | ⟨g, e, h1, h2, h3, h4⟩
  · exact .inl h
  · exact .inr ⟨g, e, h1, h2, Nat.lt_of_lt_of_le h3 hb.size, fun j hj => (hb.cell (by exact h3)).trans (h4.out j hj)⟩
theorem NumIs.below {v : Value} {z : Int} {W W' : World} (h : NumIs v z W) (hb : Below W.heap.size W W') : NumIs v z W' := by
  obtain ⟨m, ad, n, cap, f, e, h1, h2, h3⟩ := h
  exact ⟨m, ad, n, cap, f, e, h1.below hb, h2, h3⟩
/-- the greatest that is told of here -/
def BIG : Int := 65536 ^ 100
theorem len_of {W : World} {ad : Option Addr} {n cap : Nat} {f : Nat → Int} (h : DigAt W ad n cap f) (m : Bool) (h1 : -BIG < sg m * dval f n) (h2 : sg m * dval f n < BIG) : n ≤ 100 := by
  have h3 : dval f n < BIG := by cases m <;> simp [sg] at h1 h2 <;> omega
  rcases Nat.lt_or_ge 100 n with h4 | h4
  · rcases h.top with h5 | h5
    · omega
    · have h6 := dval_low h.bd (by omega) h5
      have h7 : BIG ≤ 65536 ^ (n - 1) := p16_le (by omega)
      omega
  · exact h4
theorem num_zero {W : World} {ad : Option Addr} {n cap : Nat} {f : Nat → Int} (h : DigAt W ad n cap f) : dval f n = 0 ↔ n = 0 := by
  constructor
  · intro e
    rcases h.top with h5 | h5
    · exact h5
    · rcases Nat.eq_zero_or_pos n with h6 | h6
      · exact h6
      · have := dval_low h.bd h6 h5
        have := p16_pos (n - 1)
        omega
  · rintro rfl; rfl
end Go.Proofs.Ytkidphekfnmhhaa
