/-
  The document's numbers: Of, Neg, Sign, Cmp, Wide, of what number a Num is.
-/
import Derived.Test.YtkidphekfnmhhaaRefSub
import Derived.Deep.DeepCutAuto
namespace Go.Proofs.Ytkidphekfnmhhaa
open Go.RowKit

/-- its sign -/
def sgZ (z : Int) : Int := if z < 0 then -1 else if z = 0 then 0 else 1
theorem num_pos {W : World} {ad : Option Addr} {n cap : Nat} {f : Nat → Int} (h : DigAt W ad n cap f) (h0 : n ≠ 0) : 0 < dval f n := by
  have h1 := (dval_bound h.bd n).1
  have h2 := num_zero h
  omega

theorem NumIs.shape {v : Value} {z : Int} {W : World} (h : NumIs v z W) : ∃ (m : Bool) (ad : Option Addr) (n c : Nat), v = .agg #[.bool m, .slice ad n c] := by
  obtain ⟨m, ad, n, c, f, e, -⟩ := h
  exact ⟨m, ad, n, c, e⟩
theorem neg_num (v : Value) (z : Int) (w : World) (h : NumIs v z w) :
    Calls Try.prog 68 #[v] w fun e w' => ∃ x, e = .returned x ∧ NumIs x (-z) w' ∧ Below w.heap.size w w' := by
  obtain ⟨m, ad, n, c, f, rfl, d, hm, rfl⟩ := h
  refine (refNeg_c m ad c n w).mono ?_
  rintro e w' ⟨rfl, hb⟩
  refine ⟨_, rfl, ⟨_, ad, n, c, f, rfl, d.below hb, fun h => by simp [h], ?_⟩, hb⟩
  rcases Nat.eq_zero_or_pos n with h | h
  · subst h; simp [dval]
  · cases m <;> simp [sg, h]
theorem sign_num (v : Value) (z : Int) (w : World) (h : NumIs v z w) :
    Calls Try.prog 58 #[v] w fun e w' => e = .returned (.int .i64 (sgZ z)) ∧ Below w.heap.size w w' := by
  obtain ⟨m, ad, n, c, f, rfl, d, hm, rfl⟩ := h
  refine (refSign_c m ad c n w).mono ?_
  rintro e w' ⟨rfl, hb⟩
  refine ⟨?_, hb⟩
  rcases Nat.eq_zero_or_pos n with h | h
  · subst h; simp [dval, sgZ]
  · have := num_pos d (by omega)
    rw [if_neg (by omega)]
    cases m
    · rw [show sgZ (sg false * dval f n) = 1 by simp [sg, sgZ]; rw [if_neg (by omega), if_neg (by omega)]]; rfl
    · rw [show sgZ (sg true * dval f n) = -1 by simp [sg, sgZ]; omega]; rfl

theorem dval_dgt (a b c d : Int) (hA : In4 a b c d) : dval (dgt a b c d) 16 = V4 a b c d := by
  obtain ⟨i0, i1, i2, i3⟩ := hA
  unfold In1 at i0 i1 i2 i3
  have e : ∀ q t, q < 4 → t < 4 → dgt a b c d (4 * q + t) = lim a b c d q / 65536 ^ t % 65536 := fun q t h1 h2 => dgt_at a b c d q t h1 h2
  simp only [dval]
  rw [show dgt a b c d 0 = a / 65536 ^ 0 % 65536 from e 0 0 (by omega) (by omega), show dgt a b c d 1 = a / 65536 ^ 1 % 65536 from e 0 1 (by omega) (by omega), show dgt a b c d 2 = a / 65536 ^ 2 % 65536 from e 0 2 (by omega) (by omega), show dgt a b c d 3 = a / 65536 ^ 3 % 65536 from e 0 3 (by omega) (by omega),
    show dgt a b c d 4 = b / 65536 ^ 0 % 65536 from e 1 0 (by omega) (by omega), show dgt a b c d 5 = b / 65536 ^ 1 % 65536 from e 1 1 (by omega) (by omega), show dgt a b c d 6 = b / 65536 ^ 2 % 65536 from e 1 2 (by omega) (by omega), show dgt a b c d 7 = b / 65536 ^ 3 % 65536 from e 1 3 (by omega) (by omega),
    show dgt a b c d 8 = c / 65536 ^ 0 % 65536 from e 2 0 (by omega) (by omega), show dgt a b c d 9 = c / 65536 ^ 1 % 65536 from e 2 1 (by omega) (by omega), show dgt a b c d 10 = c / 65536 ^ 2 % 65536 from e 2 2 (by omega) (by omega), show dgt a b c d 11 = c / 65536 ^ 3 % 65536 from e 2 3 (by omega) (by omega),
    show dgt a b c d 12 = d / 65536 ^ 0 % 65536 from e 3 0 (by omega) (by omega), show dgt a b c d 13 = d / 65536 ^ 1 % 65536 from e 3 1 (by omega) (by omega), show dgt a b c d 14 = d / 65536 ^ 2 % 65536 from e 3 2 (by omega) (by omega), show dgt a b c d 15 = d / 65536 ^ 3 % 65536 from e 3 3 (by omega) (by omega)]
  have k : ∀ x : Int, 0 ≤ x ∧ x < 18446744073709551616 → x / 65536 ^ 0 % 65536 + x / 65536 ^ 1 % 65536 * 65536 + x / 65536 ^ 2 % 65536 * 4294967296 + x / 65536 ^ 3 % 65536 * 281474976710656 = x := by
    intro x hx
    simp only [show (65536 : Int) ^ 3 = 281474976710656 from rfl, show (65536 : Int) ^ 2 = 4294967296 from rfl, show (65536 : Int) ^ 1 = 65536 from rfl, show (65536 : Int) ^ 0 = 1 from rfl]
    omega
  have ka := k a i0
  have kb := k b i1
  have kc := k c i2
  have kd := k d i3
  generalize a / 65536 ^ 0 % 65536 = a0 at *
  generalize a / 65536 ^ 1 % 65536 = a1 at *
  generalize a / 65536 ^ 2 % 65536 = a2 at *
  generalize a / 65536 ^ 3 % 65536 = a3 at *
  generalize b / 65536 ^ 0 % 65536 = b0 at *
  generalize b / 65536 ^ 1 % 65536 = b1 at *
  generalize b / 65536 ^ 2 % 65536 = b2 at *
  generalize b / 65536 ^ 3 % 65536 = b3 at *
  generalize c / 65536 ^ 0 % 65536 = c0 at *
  generalize c / 65536 ^ 1 % 65536 = c1 at *
  generalize c / 65536 ^ 2 % 65536 = c2 at *
  generalize c / 65536 ^ 3 % 65536 = c3 at *
  generalize d / 65536 ^ 0 % 65536 = d0 at *
  generalize d / 65536 ^ 1 % 65536 = d1 at *
  generalize d / 65536 ^ 2 % 65536 = d2 at *
  generalize d / 65536 ^ 3 % 65536 = d3 at *
  unfold V4
  omega

end Go.Proofs.Ytkidphekfnmhhaa
