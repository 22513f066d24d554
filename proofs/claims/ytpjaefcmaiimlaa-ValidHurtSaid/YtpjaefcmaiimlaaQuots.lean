/-
  Four limbs in memory; a world taken for a letter.
-/
import Derived.Test.YtpjaefcmaiimlaaLows
import Derived.Lib.BitFns
import Derived.Deep.DeepCutAuto
import Derived.Deep.QuietTactic
import Derived.BigQuiet
import Derived.Lib.OthersKept
set_option linter.unusedVariables false
set_option linter.unusedSimpArgs false
set_option linter.deprecated false
namespace Go.Proofs.Ytpjaefcmaiimlaa
open Go.RowKit

structure At4 (W : World) (g : Nat) (a b c d : Int) : Prop where
  c0 : W.cell? ⟨g, 0, none⟩ = some (.int .u64 a)
  c1 : W.cell? ⟨g, 1, none⟩ = some (.int .u64 b)
  c2 : W.cell? ⟨g, 2, none⟩ = some (.int .u64 c)
  c3 : W.cell? ⟨g, 3, none⟩ = some (.int .u64 d)
structure Free4 (W : World) (g : Nat) : Prop where
  f0 : W.frozen? ⟨g, 0, none⟩ = false
  f1 : W.frozen? ⟨g, 1, none⟩ = false
  f2 : W.frozen? ⟨g, 2, none⟩ = false
  f3 : W.frozen? ⟨g, 3, none⟩ = false

theorem cell_lt {W : World} {g o : Nat} {v : Value} (h : W.cell? ⟨g, o, none⟩ = some v) : g < W.heap.size := by
  unfold World.cell? at h
  by_cases hl : g < W.heap.size
  · exact hl
  · simp [Array.getElem?_eq_none (by omega : W.heap.size ≤ g)] at h
theorem At4.lt {W : World} {g : Nat} {a b c d : Int} (h : At4 W g a b c d) : g < W.heap.size := cell_lt h.c0
theorem At4.below {W W' : World} {g : Nat} {a b c d : Int} (h : At4 W g a b c d) (hb : Below W.heap.size W W') : At4 W' g a b c d :=
  ⟨(hb.cell (p := ⟨g, _, none⟩) h.lt).trans h.c0, (hb.cell (p := ⟨g, _, none⟩) h.lt).trans h.c1, (hb.cell (p := ⟨g, _, none⟩) h.lt).trans h.c2, (hb.cell (p := ⟨g, _, none⟩) h.lt).trans h.c3⟩
theorem Free4.below {W W' : World} {g : Nat} (h : Free4 W g) (hlt : g < W.heap.size) (hb : Below W.heap.size W W') : Free4 W' g :=
  ⟨(hb.frozen (p := ⟨g, _, none⟩) hlt).trans h.f0, (hb.frozen (p := ⟨g, _, none⟩) hlt).trans h.f1, (hb.frozen (p := ⟨g, _, none⟩) hlt).trans h.f2, (hb.frozen (p := ⟨g, _, none⟩) hlt).trans h.f3⟩
theorem bl_one (W : World) (o : Obj) : Below W.heap.size W (W.alloc o) := bl_alloc (Below.refl _ _) o
theorem bl_drew1 (W : World) : Below W.heap.size W W.drew := (Below.refl _ _).drew
theorem At4.store {W : World} {g : Nat} {a b c d : Int} (h : At4 W g a b c d) (p q r s : Int) :
    At4 ((((W.setCell ⟨g, 0, none⟩ (.int .u64 p)).setCell ⟨g, 1, none⟩ (.int .u64 q)).setCell ⟨g, 2, none⟩ (.int .u64 r)).setCell ⟨g, 3, none⟩ (.int .u64 s)) g p q r s := by
  have h0 := h.c0; have h1 := h.c1; have h2 := h.c2; have h3 := h.c3
  constructor <;> simp [go_sem, h0, h1, h2, h3]
theorem At4.far {W : World} {g g' : Nat} {a b c d : Int} (h : At4 W g a b c d) (hne : g' ≠ g) (o : Nat) (v : Value) : At4 (W.setCell ⟨g', o, none⟩ v) g a b c d :=
  ⟨(World.cell?_setCell_far _ _ _ _ hne).trans h.c0, (World.cell?_setCell_far _ _ _ _ hne).trans h.c1, (World.cell?_setCell_far _ _ _ _ hne).trans h.c2, (World.cell?_setCell_far _ _ _ _ hne).trans h.c3⟩
theorem Free4.far {W : World} {g : Nat} (h : Free4 W g) (p : Addr) (v : Value) : Free4 (W.setCell p v) g :=
  ⟨(World.frozen?_setCell _ _ _ _).trans h.f0, (World.frozen?_setCell _ _ _ _).trans h.f1, (World.frozen?_setCell _ _ _ _).trans h.f2, (World.frozen?_setCell _ _ _ _).trans h.f3⟩

theorem At4.set0 {W : World} {g : Nat} {a b c d : Int} (h : At4 W g a b c d) (v : Int) : At4 (W.setCell ⟨g, 0, none⟩ (.int .u64 v)) g v b c d := by
  have h0 := h.c0; have h1 := h.c1; have h2 := h.c2; have h3 := h.c3
  constructor <;> simp [go_sem, h0, h1, h2, h3]
theorem At4.set1 {W : World} {g : Nat} {a b c d : Int} (h : At4 W g a b c d) (v : Int) : At4 (W.setCell ⟨g, 1, none⟩ (.int .u64 v)) g a v c d := by
  have h0 := h.c0; have h1 := h.c1; have h2 := h.c2; have h3 := h.c3
  constructor <;> simp [go_sem, h0, h1, h2, h3]
theorem At4.set2 {W : World} {g : Nat} {a b c d : Int} (h : At4 W g a b c d) (v : Int) : At4 (W.setCell ⟨g, 2, none⟩ (.int .u64 v)) g a b v d := by
  have h0 := h.c0; have h1 := h.c1; have h2 := h.c2; have h3 := h.c3
  constructor <;> simp [go_sem, h0, h1, h2, h3]
theorem At4.set3 {W : World} {g : Nat} {a b c d : Int} (h : At4 W g a b c d) (v : Int) : At4 (W.setCell ⟨g, 3, none⟩ (.int .u64 v)) g a b c v := by
  have h0 := h.c0; have h1 := h.c1; have h2 := h.c2; have h3 := h.c3
  constructor <;> simp [go_sem, h0, h1, h2, h3]

/-- the world, a letter with what is known of it -/
theorem wp_abs {P : Program} {c : Code} {Q : Exit → Act → World → Prop} {a : Act} {W : World} (S : World → Prop) (hS : S W) (h : ∀ W', S W' → c.wp P Q a W') : c.wp P Q a W := h W hS

end Go.Proofs.Ytpjaefcmaiimlaa

/-
  Plain facts on shifts of limbs.
-/
namespace Go.Proofs.Ytpjaefcmaiimlaa
open Go.RowKit

/-- x | y, x a multiple of 2^k, y below 2^k -/
theorem orU (k : Nat) (x q y : Int) (hx : x = 2 ^ k * q) (hq : 0 ≤ q) (hy : 0 ≤ y) (hyk : y < 2 ^ k) (h64 : x < 18446744073709551616) (hy64 : y < 18446744073709551616) : bits .or .u64 x y = x + y := by
  obtain ⟨Q, rfl⟩ := Int.eq_ofNat_of_zero_le hq
  obtain ⟨Y, rfl⟩ := Int.eq_ofNat_of_zero_le hy
  have hx' : x = ((2 ^ k * Q : Nat) : Int) := by rw [hx]; push_cast; rfl
  have h64' : 2 ^ k * Q < 18446744073709551616 := by rw [hx'] at h64; omega
  rw [hx']
  have e := Nat.two_pow_add_eq_or_of_lt (i := k) (b := Y) (by exact_mod_cast hyk) Q
  rw [bits_or_u64_nat _ _ (by omega) (by omega), ← e]
  push_cast
  rfl
theorem orU' (k : Nat) (x q y : Int) (hx : x = 2 ^ k * q) (hq : 0 ≤ q) (hy : 0 ≤ y) (hyk : y < 2 ^ k) (h64 : x < 18446744073709551616) (hy64 : y < 18446744073709551616) : bits .or .u64 y x = x + y := by
  obtain ⟨Q, rfl⟩ := Int.eq_ofNat_of_zero_le hq
  obtain ⟨Y, rfl⟩ := Int.eq_ofNat_of_zero_le hy
  have hx' : x = ((2 ^ k * Q : Nat) : Int) := by rw [hx]; push_cast; rfl
  have h64' : 2 ^ k * Q < 18446744073709551616 := by rw [hx'] at h64; omega
  rw [hx']
  have e := Nat.two_pow_add_eq_or_of_lt (i := k) (b := Y) (by exact_mod_cast hyk) Q
  rw [bits_or_u64_nat _ _ (by omega) (by omega), Nat.or_comm, ← e]
  push_cast
  rfl

/-- a limb shifted by r, 0 ≤ r < 64: what stays, and what goes over -/
theorem shl_parts (x : Int) (hx : In1 x) (r : Nat) (hr : r < 64) :
    ∃ u h : Int, IntKind.u64.wrap (x * 2 ^ r) = 2 ^ r * u ∧ x / 2 ^ (64 - r) = h ∧ 0 ≤ u ∧ 0 ≤ h ∧ h < 2 ^ r ∧ 2 ^ r * u < 18446744073709551616 ∧ h < 18446744073709551616 ∧ 2 ^ r * u + 2 ^ r ≤ 18446744073709551616 ∧ x * 2 ^ r = 18446744073709551616 * h + 2 ^ r * u ∧ 0 ≤ 2 ^ r * u := by
  have hPR : (2 : Int) ^ r * 2 ^ (64 - r) = 18446744073709551616 := by
    rw [← Int.pow_add, show r + (64 - r) = 64 by omega]; rfl
  have hP : (0 : Int) < 2 ^ r := Int.pow_pos (by omega)
  have hR : (0 : Int) < 2 ^ (64 - r) := Int.pow_pos (by omega)
  unfold In1 at hx
  generalize (2 : Int) ^ r = P at *
  generalize (2 : Int) ^ (64 - r) = R at *
  refine ⟨x % R, x / R, ?_, rfl, Int.emod_nonneg _ (by omega), Int.ediv_nonneg hx.1 (by omega), ?_, ?_, ?_, ?_, ?_, Int.mul_nonneg (by omega) (Int.emod_nonneg _ (by omega))⟩
  · rw [IntKind.wrap_u64, ← hPR, Int.mul_comm x P, Int.mul_emod_mul_of_pos _ _ hP]
  · rw [Int.ediv_lt_iff_lt_mul hR]; omega
  · rw [← hPR]; exact Int.mul_lt_mul_of_pos_left (Int.emod_lt_of_pos _ hR) hP
  · have := Int.ediv_le_self R hx.1; omega
  · have h2 : P * (x % R + 1) ≤ P * R := Int.mul_le_mul_of_nonneg_left (by have := Int.emod_lt_of_pos x hR; omega) (by omega)
    rw [Int.mul_add, Int.mul_one, hPR] at h2
    exact h2
  · have := Int.mul_ediv_add_emod x R
    rw [← hPR]
    calc x * P = P * x := Int.mul_comm _ _
      _ = P * (R * (x / R) + x % R) := by rw [this]
      _ = P * R * (x / R) + P * (x % R) := by rw [Int.mul_add, Int.mul_assoc]
end Go.Proofs.Ytpjaefcmaiimlaa

/-
  Contracts: math/bits.Len64, wide.length.
-/
namespace Go.Proofs.Ytpjaefcmaiimlaa
open Go.RowKit

/-- n is the number of bits of x -/
def LenOf (x n : Int) : Prop := 0 ≤ n ∧ x < 2 ^ n.toNat ∧ (x = 0 → n = 0) ∧ (0 < x → 2 ^ n.toNat ≤ 2 * x ∧ 1 ≤ n)

theorem lenOf_shift (x b : Int) (k : Nat) (h : x / 2 ^ k = b) (hb : 0 < b) (n : Int) (hn : LenOf b n) : LenOf x ((k : Int) + n) := by
  obtain ⟨h0, h1, h2, h3⟩ := hn
  have hk : (0 : Int) < 2 ^ k := Int.pow_pos (by omega)
  have e : ((k : Int) + n).toNat = k + n.toNat := by omega
  have hx := Int.mul_ediv_add_emod x (2 ^ k)
  have hr := Int.emod_lt_of_pos x hk
  have hr0 := Int.emod_nonneg x (by omega : (2 : Int) ^ k ≠ 0)
  rw [h] at hx
  unfold LenOf
  rw [e, Int.pow_add]
  have h4 := (h3 hb).1
  have m1 : (2 : Int) ^ k * (b + 1) ≤ 2 ^ k * 2 ^ n.toNat := Int.mul_le_mul_of_nonneg_left (by omega) (by omega)
  have m2 : (2 : Int) ^ k * 2 ^ n.toNat ≤ 2 ^ k * (2 * b) := Int.mul_le_mul_of_nonneg_left h4 (by omega)
  have m3 : (2 : Int) ^ k * 1 ≤ 2 ^ k * b := Int.mul_le_mul_of_nonneg_left (by omega) (by omega)
  rw [Int.mul_add] at m1
  have e2 : (2 : Int) ^ k * (2 * b) = 2 * (2 ^ k * b) := by grind
  rw [e2] at m2
  generalize (2 : Int) ^ k * b = kb at *
  generalize (2 : Int) ^ k * 2 ^ n.toNat = kn at *
  have := (h3 hb).2
  refine ⟨by omega, by omega, fun h => by omega, fun _ => ⟨by omega, by omega⟩⟩

theorem tab_size : Lib.len8tab.size = 256 := by decide +kernel
theorem tab_len : ∀ b : Fin 256, 0 ≤ (((Lib.len8tab[b.val]'(by rw [tab_size]; exact b.2)).toNat : Nat) : Int) ∧ (((b.val : Nat) : Int) < 2 ^ (((Lib.len8tab[b.val]'(by rw [tab_size]; exact b.2)).toNat : Nat) : Int).toNat) ∧ (((b.val : Nat) : Int) = 0 → (((Lib.len8tab[b.val]'(by rw [tab_size]; exact b.2)).toNat : Nat) : Int) = 0) ∧ ((0 : Int) < ((b.val : Nat) : Int) → (2 : Int) ^ (((Lib.len8tab[b.val]'(by rw [tab_size]; exact b.2)).toNat : Nat) : Int).toNat ≤ 2 * ((b.val : Nat) : Int) ∧ 1 ≤ (((Lib.len8tab[b.val]'(by rw [tab_size]; exact b.2)).toNat : Nat) : Int)) := by decide +kernel
theorem tab_le : ∀ b : Fin 256, (Lib.len8tab[b.val]'(by rw [tab_size]; exact b.2)).toNat ≤ 8 := by decide +kernel

theorem len_close (x b : Int) (k : Nat) (K : Int) (hK : K = (k : Int)) (hk : k ≤ 56) (hb : x / 2 ^ k = b) (h : 0 < b ∨ k = 0) (h0 : 0 ≤ b) (h256 : b < 256) (hi : b.toNat < Lib.len8tab.size) :
    Hid (LenOf x (wrap64 (K + wrap64 (((Lib.len8tab[b.toNat]'hi).toNat : Nat) : Int))) ∧ wrap64 (K + wrap64 (((Lib.len8tab[b.toNat]'hi).toNat : Nat) : Int)) ≤ 64) := by
  subst hK
  have t : LenOf ((b.toNat : Nat) : Int) (((Lib.len8tab[b.toNat]'hi).toNat : Nat) : Int) := tab_len ⟨b.toNat, by omega⟩
  have l : (Lib.len8tab[b.toNat]'hi).toNat ≤ 8 := tab_le ⟨b.toNat, by omega⟩
  rw [Int.toNat_of_nonneg h0] at t
  generalize (Lib.len8tab[b.toNat]'hi).toNat = n at *
  have e1 : wrap64 (n : Int) = n := IntWalk.wrap64_in _ ⟨by omega, by omega⟩
  have e2 : wrap64 ((k : Int) + (n : Int)) = (k : Int) + (n : Int) := IntWalk.wrap64_in _ ⟨by omega, by omega⟩
  rw [e1, e2]
  refine ⟨?_, by omega⟩
  rcases h with h | h
  · exact lenOf_shift x b k hb h n t
  · subst h
    have : x = b := by simpa using hb
    subst this
    rw [show ((0 : Nat) : Int) + (n : Int) = (n : Int) by omega]
    exact t

def LenP (x : Int) (w : World) (e : Ending) (w' : World) : Prop := ∃ n : Int, Hid (LenOf x n ∧ n ≤ 64) ∧ e = .returned (.int .i64 n) ∧ w = w'

set_option maxHeartbeats 4000000 in
set_option maxRecDepth 100000 in
theorem len64_c (x : Int) (hx : In1 x) (w : World) :
    Calls Try.prog 170 #[.int .u64 x] w (LenP x w) := by
  unfold In1 at hx
  obtain ⟨h0, h1⟩ := hx
  have hs : (256 : Int) ≤ ((Lib.len8tab.size : Nat) : Int) := by decide
  go_enter Try.func170, Try.ntmps170
  go_wp2
  all_goals go_ret
  all_goals refine ⟨_, ?_, rfl, rfl⟩
  · exact len_close x _ 56 56 rfl (by omega) (by rw [show (2 : Int) ^ 56 = 72057594037927936 from rfl] <;> omega) (by omega) (by omega) (by omega) _
  · exact len_close x _ 48 48 rfl (by omega) (by rw [show (2 : Int) ^ 48 = 281474976710656 from rfl] <;> omega) (by omega) (by omega) (by omega) _
  · exact len_close x _ 40 40 rfl (by omega) (by rw [show (2 : Int) ^ 40 = 1099511627776 from rfl] <;> omega) (by omega) (by omega) (by omega) _
  · exact len_close x _ 32 32 rfl (by omega) (by rw [show (2 : Int) ^ 32 = 4294967296 from rfl] <;> omega) (by omega) (by omega) (by omega) _
  · exact len_close x _ 24 24 rfl (by omega) (by rw [show (2 : Int) ^ 24 = 16777216 from rfl] <;> omega) (by omega) (by omega) (by omega) _
  · exact len_close x _ 16 16 rfl (by omega) (by rw [show (2 : Int) ^ 16 = 65536 from rfl] <;> omega) (by omega) (by omega) (by omega) _
  · exact len_close x _ 8 8 rfl (by omega) (by rw [show (2 : Int) ^ 8 = 256 from rfl] <;> omega) (by omega) (by omega) (by omega) _
  · have q := len_close x x 0 0 rfl (by omega) (by simp) (by omega) (by omega) (by omega) (by rw [tab_size]; omega)
    simpa only [Int.zero_add] using q

def LenWP (V : Int) (w : World) (e : Ending) (w' : World) : Prop := ∃ n : Int, Hid (LenOf V n ∧ n ≤ 256) ∧ e = .returned (.int .i64 n) ∧ Below w.heap.size w w'

theorem len_limb {V x : Int} {k : Nat} {n : Int} (h : V / 2 ^ k = x) (hx : x ≠ 0) (h0 : 0 ≤ x) (hn : LenOf x n) : LenOf V ((k : Int) + n) := lenOf_shift V x k h (by omega) n hn

end Go.Proofs.Ytpjaefcmaiimlaa

/-
  Contracts: wide.halved, wide.shifted.
-/
namespace Go.Proofs.Ytpjaefcmaiimlaa
open Go.RowKit

def LimbsP (Q : Int → Prop) (w : World) (e : Ending) (w' : World) : Prop :=
  ∃ s0 s1 s2 s3 : Int, In4 s0 s1 s2 s3 ∧ Hid (Q (V4 s0 s1 s2 s3)) ∧ e = .returned (.agg #[.int .u64 s0, .int .u64 s1, .int .u64 s2, .int .u64 s3]) ∧ Below w.heap.size w w'

theorem half_or (c d : Int) (hc : In1 c) (_hd : In1 d) : bits BinOp.or IntKind.u64 (c / 2) (IntKind.u64.wrap (d * 9223372036854775808)) = d % 2 * 9223372036854775808 + c / 2 := by
  unfold In1 at hc
  have e : IntKind.u64.wrap (d * 9223372036854775808) = d % 2 * 9223372036854775808 := by rw [IntKind.wrap_u64]; omega
  rw [e]
  exact orU' 63 _ (d % 2) _ (by rw [show (2 : Int) ^ 63 = 9223372036854775808 from rfl]; omega) (by omega) (by omega) (by rw [show (2 : Int) ^ 63 = 9223372036854775808 from rfl]; omega) (by omega) (by omega)
theorem or_zero (c : Int) (hc : In1 c) : bits BinOp.or IntKind.u64 (c / 2) 0 = c / 2 := by
  unfold In1 at hc
  have := orU' 63 0 0 (c / 2) (by simp) (by omega) (by omega) (by rw [show (2 : Int) ^ 63 = 9223372036854775808 from rfl]; omega) (by omega) (by omega)
  rw [this]; omega

/-- what a shift comes to: the number times 2^n, but for what goes over -/
def ShlP (V : Int) (n : Nat) (v : Int) : Prop := ∃ t : Int, 0 ≤ t ∧ v + M256 * t = V * 2 ^ n

theorem v4_mul (a b c d p : Int) : V4 a b c d * p = a * p + b * p * 18446744073709551616 + c * p * 340282366920938463463374607431768211456 + d * p * 6277101735386680763835789423207666416102355444464034512896 := by
  unfold V4; grind
theorem mul_pow (V : Int) (s r : Nat) (B : Int) (hB : (2 : Int) ^ (64 * s) = B) : V * 2 ^ (64 * s + r) = V * 2 ^ r * B := by
  rw [Int.pow_add, hB]; grind

end Go.Proofs.Ytpjaefcmaiimlaa

/-
  Plain facts on long division bit by bit.
-/
namespace Go.Proofs.Ytpjaefcmaiimlaa
open Go.RowKit

/-- what the numbers are ahead of the round of this bit -/
def DivM (A Y Q R V bit : Int) : Prop :=
  A = Q * Y + R ∧ R < Y * 2 ^ (bit + 1).toNat ∧ (∃ t, 0 ≤ t ∧ Q = 2 ^ (bit + 1).toNat * t) ∧ (0 ≤ bit → V = Y * 2 ^ bit.toNat)

theorem len_lt {X Y n k : Int} (_hX : 0 ≤ X) (hY : 0 < Y) (h1 : LenOf X n) (h2 : LenOf Y k) (h : n - k < 0) : X < Y := by
  have h3 := (h2.2.2.2 hY).1
  have hk : k.toNat = (k.toNat - 1) + 1 := by have := (h2.2.2.2 hY).2; omega
  rw [hk, Int.pow_succ] at h3
  have hle : (2 : Int) ^ n.toNat ≤ 2 ^ (k.toNat - 1) := by
    obtain ⟨e, he⟩ := Nat.exists_eq_add_of_le (show n.toNat ≤ k.toNat - 1 by have := h1.1; omega)
    rw [he, Int.pow_add]
    have p1 : (0 : Int) < 2 ^ n.toNat := Int.pow_pos (by omega)
    have p2 : (0 : Int) < 2 ^ e := Int.pow_pos (by omega)
    have : (2 : Int) ^ n.toNat * 1 ≤ 2 ^ n.toNat * 2 ^ e := Int.mul_le_mul_of_nonneg_left (by omega) (by omega)
    omega
  have := h1.2.1
  omega
theorem pow_split {n k : Int} (h0 : 0 ≤ k) (h : 0 ≤ n - k) : (2 : Int) ^ n.toNat = 2 ^ k.toNat * 2 ^ (n - k).toNat := by
  rw [← Int.pow_add]; congr 1; omega
theorem m256_pow : M256 = 2 ^ 256 := by decide +kernel
theorem pow_mono {i j : Nat} (h : i ≤ j) : (2 : Int) ^ i ≤ 2 ^ j := by
  obtain ⟨e, he⟩ := Nat.exists_eq_add_of_le h
  rw [he, Int.pow_add]
  have p1 : (0 : Int) < 2 ^ i := Int.pow_pos (by omega)
  have p2 : (0 : Int) < 2 ^ e := Int.pow_pos (by omega)
  have : (2 : Int) ^ i * 1 ≤ 2 ^ i * 2 ^ e := Int.mul_le_mul_of_nonneg_left (by omega) (by omega)
  omega
theorem shl_fits {X Y n k v : Int} (hX : 0 ≤ X) (hY : 0 < Y) (h1 : LenOf X n) (h2 : LenOf Y k) (hn : n ≤ 256) (h : 0 ≤ n - k) (hv0 : 0 ≤ v) (hv : ShlP Y (n - k).toNat v) : v = Y * 2 ^ (n - k).toNat ∧ X < Y * 2 ^ ((n - k) + 1).toNat := by
  obtain ⟨t, ht, e⟩ := hv
  have p : (0 : Int) < 2 ^ (n - k).toNat := Int.pow_pos (by omega)
  have s := pow_split h2.1 h
  have m := pow_mono (i := n.toNat) (j := 256) (by have := h1.1; omega)
  rw [← m256_pow] at m
  have a1 : Y * 2 ^ (n - k).toNat < 2 ^ n.toNat := by rw [s]; exact Int.mul_lt_mul_of_pos_right h2.2.1 p
  have a2 : (2 : Int) ^ n.toNat ≤ 2 * Y * 2 ^ (n - k).toNat := by rw [s]; exact Int.mul_le_mul_of_nonneg_right (h2.2.2.2 hY).1 (by omega)
  have e3 : Y * 2 ^ ((n - k) + 1).toNat = 2 * Y * 2 ^ (n - k).toNat := by
    rw [show ((n - k) + 1).toNat = (n - k).toNat + 1 by omega, Int.pow_succ]; grind
  have := h1.2.1
  have t0 : t = 0 := by
    rw [e.symm] at a1
    unfold M256 at *
    omega
  subst t0
  refine ⟨by rw [← e]; omega, by rw [e3]; omega⟩
theorem shift_lt {Y n k : Int} (hY : 0 < Y) (h2 : LenOf Y k) (hn : n ≤ 256) : n - k < 256 := by
  have := (h2.2.2.2 hY).2; omega
theorem divM_start {A Y V s : Int} (hV : V = Y * 2 ^ s.toNat ∧ A < Y * 2 ^ (s + 1).toNat) : DivM A Y 0 A V s :=
  ⟨by omega, hV.2, ⟨0, by omega, by simp⟩, fun _ => hV.1⟩
theorem divM_yes {A Y Q R V S V' bit : Int} (h : DivM A Y Q R V bit) (h0 : 0 ≤ bit) (hs : S + V = R + M256 * 0) (hv : V' = V / 2) : DivM A Y (Q + 2 ^ bit.toNat) S V' (bit - 1) := by
  obtain ⟨e, hr, ⟨t, ht, hq⟩, hd⟩ := h
  have hV := hd h0
  have ee : (bit + 1).toNat = bit.toNat + 1 := by omega
  rw [ee, Int.pow_succ] at hr hq
  have e1 : (bit - 1 + 1).toNat = bit.toNat := by omega
  unfold DivM
  rw [e1]
  refine ⟨?_, ?_, ⟨2 * t + 1, by omega, by rw [hq]; grind⟩, fun hb => ?_⟩
  · rw [Int.add_mul, Int.mul_comm (2 ^ bit.toNat) Y, ← hV, e]; omega
  · have : Y * (2 ^ bit.toNat * 2) = V * 2 := by rw [hV]; grind
    rw [← hV]; omega
  · have : bit.toNat = (bit - 1).toNat + 1 := by omega
    rw [this, Int.pow_succ] at hV
    have : V = 2 * (Y * 2 ^ (bit - 1).toNat) := by rw [hV]; grind
    rw [hv, this]; omega
theorem divM_no {A Y Q R V S V' bit : Int} (h : DivM A Y Q R V bit) (h0 : 0 ≤ bit) (hS : S < M256) (hs : S + V = R + M256 * 1) (hv : V' = V / 2) : DivM A Y Q R V' (bit - 1) := by
  obtain ⟨e, hr, ⟨t, ht, hq⟩, hd⟩ := h
  have hV := hd h0
  have ee : (bit + 1).toNat = bit.toNat + 1 := by omega
  rw [ee, Int.pow_succ] at hr hq
  have e1 : (bit - 1 + 1).toNat = bit.toNat := by omega
  unfold DivM
  rw [e1]
  refine ⟨e, ?_, ⟨2 * t, by omega, by rw [hq]; grind⟩, fun hb => ?_⟩
  · rw [← hV]; omega
  · have : bit.toNat = (bit - 1).toNat + 1 := by omega
    rw [this, Int.pow_succ] at hV
    have : V = 2 * (Y * 2 ^ (bit - 1).toNat) := by rw [hV]; grind
    rw [hv, this]; omega
theorem divM_end {A Y Q R V : Int} (h : DivM A Y Q R V (-1)) : A = Q * Y + R ∧ R < Y := by
  obtain ⟨e, hr, -, -⟩ := h
  exact ⟨e, by simpa using hr⟩

/-- one limb of a multiple of 2^(64 i + r + 1) -/
theorem limb_mult (q rest t : Int) (hq : In1 q) (r : Nat) (hr : r < 64) (e : q + 18446744073709551616 * rest = 2 ^ (r + 1) * t) : ∃ q', 0 ≤ q' ∧ q = 2 ^ (r + 1) * q' := by
  have hPR : (2 : Int) ^ (r + 1) * 2 ^ (63 - r) = 18446744073709551616 := by
    rw [← Int.pow_add, show r + 1 + (63 - r) = 64 by omega]; rfl
  have hP : (0 : Int) < 2 ^ (r + 1) := Int.pow_pos (by omega)
  have hR : (0 : Int) < 2 ^ (63 - r) := Int.pow_pos (by omega)
  unfold In1 at hq
  refine ⟨t % 2 ^ (63 - r), Int.emod_nonneg _ (by omega), ?_⟩
  have h1 : q = (2 ^ (r + 1) * t) % 18446744073709551616 := by rw [← e]; omega
  rw [h1, ← hPR, Int.mul_emod_mul_of_pos _ _ hP]
theorem or_bit (q q' : Int) (hq : In1 q) (r : Nat) (hr : r < 64) (h0 : 0 ≤ q') (e : q = 2 ^ (r + 1) * q') : bits .or .u64 q (2 ^ r) = q + 2 ^ r ∧ In1 (q + 2 ^ r) := by
  have hp : (0 : Int) < 2 ^ r := Int.pow_pos (by omega)
  have hp1 : (2 : Int) ^ (r + 1) = 2 ^ r * 2 := Int.pow_succ ..
  have hle : (2 : Int) ^ r ≤ 2 ^ 63 := pow_mono (by omega)
  rw [show (2 : Int) ^ 63 = 9223372036854775808 from rfl] at hle
  unfold In1 at *
  refine ⟨orU (r + 1) q q' (2 ^ r) e h0 (by omega) (by omega) hq.2 (by omega), by omega, ?_⟩
  -- q is a multiple of 2^(r+1) below 2^64, itself a multiple of 2^(r+1)
  have hPR : (2 : Int) ^ (r + 1) * 2 ^ (63 - r) = 18446744073709551616 := by
    rw [← Int.pow_add, show r + 1 + (63 - r) = 64 by omega]; rfl
  have hP : (0 : Int) < 2 ^ (r + 1) := Int.pow_pos (by omega)
  have : q' < 2 ^ (63 - r) := by
    apply Int.lt_of_mul_lt_mul_left (a := 2 ^ (r + 1)) _ (by omega)
    rw [hPR, ← e]; exact hq.2
  have m : (2 : Int) ^ (r + 1) * (q' + 1) ≤ 2 ^ (r + 1) * 2 ^ (63 - r) := Int.mul_le_mul_of_nonneg_left (by omega) (by omega)
  rw [hPR, Int.mul_add, Int.mul_one, ← e] at m
  omega
theorem limb_at0 {A Y q0 q1 q2 q3 R V bit : Int} {r : Nat} (h : DivM A Y (V4 q0 q1 q2 q3) R V bit) (hq : In4 q0 q1 q2 q3) (_h0 : 0 ≤ bit) (hi : bit / 64 = 0) (hr : bit % 64 = (r : Int)) :
    bits .or .u64 q0 (2 ^ r) = q0 + 2 ^ r ∧ In4 (q0 + 2 ^ r) q1 q2 q3 ∧ V4 (q0 + 2 ^ r) q1 q2 q3 = V4 q0 q1 q2 q3 + 2 ^ bit.toNat := by
  obtain ⟨-, -, ⟨t, ht, e⟩, -⟩ := h
  have hr64 : r < 64 := by omega
  have e1 : (bit + 1).toNat = 64 * 0 + (r + 1) := by omega
  have e2 : bit.toNat = 64 * 0 + r := by omega
  have p1 : (2 : Int) ^ (64 * 0) = 1 := by decide
  rw [e1, Int.pow_add, p1, Int.mul_assoc] at e
  have hl : q0 + 18446744073709551616 * (q1 + q2 * 18446744073709551616 + q3 * 340282366920938463463374607431768211456) = 2 ^ (r + 1) * t := by
    have hq' := hq
    unfold In4 In1 at hq'; unfold V4 at e
    generalize (2 : Int) ^ (r + 1) * t = m at *
    omega
  obtain ⟨q', h1, h2⟩ := limb_mult q0 _ t hq.1 r hr64 hl
  obtain ⟨b1, b2⟩ := or_bit q0 q' hq.1 r hr64 h1 h2
  refine ⟨b1, ?_, ?_⟩
  · unfold In4 at *; refine ⟨?_, ?_, ?_, ?_⟩ <;> first | exact b2 | exact hq.1 | exact hq.2.1 | exact hq.2.2.1 | exact hq.2.2.2
  · rw [e2, Int.pow_add, p1]; unfold V4; omega
theorem limb_at1 {A Y q0 q1 q2 q3 R V bit : Int} {r : Nat} (h : DivM A Y (V4 q0 q1 q2 q3) R V bit) (hq : In4 q0 q1 q2 q3) (_h0 : 0 ≤ bit) (hi : bit / 64 = 1) (hr : bit % 64 = (r : Int)) :
    bits .or .u64 q1 (2 ^ r) = q1 + 2 ^ r ∧ In4 q0 (q1 + 2 ^ r) q2 q3 ∧ V4 q0 (q1 + 2 ^ r) q2 q3 = V4 q0 q1 q2 q3 + 2 ^ bit.toNat := by
  obtain ⟨-, -, ⟨t, ht, e⟩, -⟩ := h
  have hr64 : r < 64 := by omega
  have e1 : (bit + 1).toNat = 64 * 1 + (r + 1) := by omega
  have e2 : bit.toNat = 64 * 1 + r := by omega
  have p1 : (2 : Int) ^ (64 * 1) = 18446744073709551616 := by decide
  rw [e1, Int.pow_add, p1, Int.mul_assoc] at e
  have hl : q1 + 18446744073709551616 * (q2 + q3 * 18446744073709551616) = 2 ^ (r + 1) * t := by
    have hq' := hq
    unfold In4 In1 at hq'; unfold V4 at e
    generalize (2 : Int) ^ (r + 1) * t = m at *
    omega
  obtain ⟨q', h1, h2⟩ := limb_mult q1 _ t hq.2.1 r hr64 hl
  obtain ⟨b1, b2⟩ := or_bit q1 q' hq.2.1 r hr64 h1 h2
  refine ⟨b1, ?_, ?_⟩
  · unfold In4 at *; refine ⟨?_, ?_, ?_, ?_⟩ <;> first | exact b2 | exact hq.1 | exact hq.2.1 | exact hq.2.2.1 | exact hq.2.2.2
  · rw [e2, Int.pow_add, p1]; unfold V4; omega
theorem limb_at2 {A Y q0 q1 q2 q3 R V bit : Int} {r : Nat} (h : DivM A Y (V4 q0 q1 q2 q3) R V bit) (hq : In4 q0 q1 q2 q3) (_h0 : 0 ≤ bit) (hi : bit / 64 = 2) (hr : bit % 64 = (r : Int)) :
    bits .or .u64 q2 (2 ^ r) = q2 + 2 ^ r ∧ In4 q0 q1 (q2 + 2 ^ r) q3 ∧ V4 q0 q1 (q2 + 2 ^ r) q3 = V4 q0 q1 q2 q3 + 2 ^ bit.toNat := by
  obtain ⟨-, -, ⟨t, ht, e⟩, -⟩ := h
  have hr64 : r < 64 := by omega
  have e1 : (bit + 1).toNat = 64 * 2 + (r + 1) := by omega
  have e2 : bit.toNat = 64 * 2 + r := by omega
  have p1 : (2 : Int) ^ (64 * 2) = 340282366920938463463374607431768211456 := by decide
  rw [e1, Int.pow_add, p1, Int.mul_assoc] at e
  have hl : q2 + 18446744073709551616 * (q3) = 2 ^ (r + 1) * t := by
    have hq' := hq
    unfold In4 In1 at hq'; unfold V4 at e
    generalize (2 : Int) ^ (r + 1) * t = m at *
    omega
  obtain ⟨q', h1, h2⟩ := limb_mult q2 _ t hq.2.2.1 r hr64 hl
  obtain ⟨b1, b2⟩ := or_bit q2 q' hq.2.2.1 r hr64 h1 h2
  refine ⟨b1, ?_, ?_⟩
  · unfold In4 at *; refine ⟨?_, ?_, ?_, ?_⟩ <;> first | exact b2 | exact hq.1 | exact hq.2.1 | exact hq.2.2.1 | exact hq.2.2.2
  · rw [e2, Int.pow_add, p1]; unfold V4; omega
theorem limb_at3 {A Y q0 q1 q2 q3 R V bit : Int} {r : Nat} (h : DivM A Y (V4 q0 q1 q2 q3) R V bit) (hq : In4 q0 q1 q2 q3) (_h0 : 0 ≤ bit) (hi : bit / 64 = 3) (hr : bit % 64 = (r : Int)) :
    bits .or .u64 q3 (2 ^ r) = q3 + 2 ^ r ∧ In4 q0 q1 q2 (q3 + 2 ^ r) ∧ V4 q0 q1 q2 (q3 + 2 ^ r) = V4 q0 q1 q2 q3 + 2 ^ bit.toNat := by
  obtain ⟨-, -, ⟨t, ht, e⟩, -⟩ := h
  have hr64 : r < 64 := by omega
  have e1 : (bit + 1).toNat = 64 * 3 + (r + 1) := by omega
  have e2 : bit.toNat = 64 * 3 + r := by omega
  have p1 : (2 : Int) ^ (64 * 3) = 6277101735386680763835789423207666416102355444464034512896 := by decide
  rw [e1, Int.pow_add, p1, Int.mul_assoc] at e
  have hl : q3 + 18446744073709551616 * (0) = 2 ^ (r + 1) * t := by
    have hq' := hq
    unfold In4 In1 at hq'; unfold V4 at e
    generalize (2 : Int) ^ (r + 1) * t = m at *
    omega
  obtain ⟨q', h1, h2⟩ := limb_mult q3 _ t hq.2.2.2 r hr64 hl
  obtain ⟨b1, b2⟩ := or_bit q3 q' hq.2.2.2 r hr64 h1 h2
  refine ⟨b1, ?_, ?_⟩
  · unfold In4 at *; refine ⟨?_, ?_, ?_, ?_⟩ <;> first | exact b2 | exact hq.1 | exact hq.2.1 | exact hq.2.2.1 | exact hq.2.2.2
  · rw [e2, Int.pow_add, p1]; unfold V4; omega
end Go.Proofs.Ytpjaefcmaiimlaa

/-
  Contract of wide.divLimbs: quotient and remainder.
-/
namespace Go.Proofs.Ytpjaefcmaiimlaa
open Go.RowKit
attribute [local go_sem ↓] Go.wp_at_zero Go.wp_at_succ

def DivP (X Y : Int) (w : World) (e : Ending) (w' : World) : Prop :=
  ∃ q0 q1 q2 q3 r0 r1 r2 r3 : Int, In4 q0 q1 q2 q3 ∧ In4 r0 r1 r2 r3 ∧ Hid (X = V4 q0 q1 q2 q3 * Y + V4 r0 r1 r2 r3 ∧ V4 r0 r1 r2 r3 < Y) ∧ e = .returned (.tuple #[(.agg #[.int .u64 q0, .int .u64 q1, .int .u64 q2, .int .u64 q3]), (.agg #[.int .u64 r0, .int .u64 r1, .int .u64 r2, .int .u64 r3])]) ∧ Below w.heap.size w w'

/-- divLimbs' memory: the arguments' boxes, the quotient, the rest -/
structure DW (w : World) (a b c d x y z u q0 q1 q2 q3 r0 r1 r2 r3 : Int) (W : World) : Prop where
  a1 : At4 W w.heap.size a b c d
  x1 : At4 W (w.heap.size + 1) x y z u
  q1 : At4 W (w.heap.size + 1 + 1) q0 q1 q2 q3
  q2 : Free4 W (w.heap.size + 1 + 1)
  r1 : At4 W (w.heap.size + 1 + 1 + 1) r0 r1 r2 r3
  r2 : Free4 W (w.heap.size + 1 + 1 + 1)
  hb : Below w.heap.size w W
theorem DW.below {w : World} {a b c d x y z u q0 q1 q2 q3 r0 r1 r2 r3 : Int} {W W' : World} (h : DW w a b c d x y z u q0 q1 q2 q3 r0 r1 r2 r3 W) (hb : Below W.heap.size W W') : DW w a b c d x y z u q0 q1 q2 q3 r0 r1 r2 r3 W' :=
  ⟨h.a1.below hb, h.x1.below hb, h.q1.below hb, h.q2.below h.q1.lt hb, h.r1.below hb, h.r2.below h.r1.lt hb, bl_trans h.hb hb⟩

theorem DW.rest {w : World} {a b c d x y z u q0 q1 q2 q3 r0 r1 r2 r3 : Int} {W : World} (h : DW w a b c d x y z u q0 q1 q2 q3 r0 r1 r2 r3 W) (s0 s1 s2 s3 : Int) :
    DW w a b c d x y z u q0 q1 q2 q3 s0 s1 s2 s3 ((((W.setCell ⟨w.heap.size + 1 + 1 + 1, 0, none⟩ (.int .u64 s0)).setCell ⟨w.heap.size + 1 + 1 + 1, 1, none⟩ (.int .u64 s1)).setCell ⟨w.heap.size + 1 + 1 + 1, 2, none⟩ (.int .u64 s2)).setCell ⟨w.heap.size + 1 + 1 + 1, 3, none⟩ (.int .u64 s3)) :=
  ⟨(((h.a1.far (by omega) _ _).far (by omega) _ _).far (by omega) _ _).far (by omega) _ _, (((h.x1.far (by omega) _ _).far (by omega) _ _).far (by omega) _ _).far (by omega) _ _, (((h.q1.far (by omega) _ _).far (by omega) _ _).far (by omega) _ _).far (by omega) _ _, (((h.q2.far _ _).far _ _).far _ _).far _ _, h.r1.store s0 s1 s2 s3, (((h.r2.far _ _).far _ _).far _ _).far _ _,
    bl_set (bl_set (bl_set (bl_set h.hb (by dsimp only; omega) _) (by dsimp only; omega) _) (by dsimp only; omega) _) (by dsimp only; omega) _⟩
theorem DW.quo0 {w : World} {a b c d x y z u q0 q1 q2 q3 r0 r1 r2 r3 : Int} {W : World} (h : DW w a b c d x y z u q0 q1 q2 q3 r0 r1 r2 r3 W) (v : Int) :
    DW w a b c d x y z u v q1 q2 q3 r0 r1 r2 r3 (W.setCell ⟨w.heap.size + 1 + 1, 0, none⟩ (.int .u64 v)) :=
  ⟨h.a1.far (by omega) _ _, h.x1.far (by omega) _ _, h.q1.set0 v, h.q2.far _ _, h.r1.far (by omega) _ _, h.r2.far _ _, bl_set h.hb (by dsimp only; omega) _⟩
theorem DW.quo1 {w : World} {a b c d x y z u q0 q1 q2 q3 r0 r1 r2 r3 : Int} {W : World} (h : DW w a b c d x y z u q0 q1 q2 q3 r0 r1 r2 r3 W) (v : Int) :
    DW w a b c d x y z u q0 v q2 q3 r0 r1 r2 r3 (W.setCell ⟨w.heap.size + 1 + 1, 1, none⟩ (.int .u64 v)) :=
  ⟨h.a1.far (by omega) _ _, h.x1.far (by omega) _ _, h.q1.set1 v, h.q2.far _ _, h.r1.far (by omega) _ _, h.r2.far _ _, bl_set h.hb (by dsimp only; omega) _⟩
theorem DW.quo2 {w : World} {a b c d x y z u q0 q1 q2 q3 r0 r1 r2 r3 : Int} {W : World} (h : DW w a b c d x y z u q0 q1 q2 q3 r0 r1 r2 r3 W) (v : Int) :
    DW w a b c d x y z u q0 q1 v q3 r0 r1 r2 r3 (W.setCell ⟨w.heap.size + 1 + 1, 2, none⟩ (.int .u64 v)) :=
  ⟨h.a1.far (by omega) _ _, h.x1.far (by omega) _ _, h.q1.set2 v, h.q2.far _ _, h.r1.far (by omega) _ _, h.r2.far _ _, bl_set h.hb (by dsimp only; omega) _⟩
theorem DW.quo3 {w : World} {a b c d x y z u q0 q1 q2 q3 r0 r1 r2 r3 : Int} {W : World} (h : DW w a b c d x y z u q0 q1 q2 q3 r0 r1 r2 r3 W) (v : Int) :
    DW w a b c d x y z u q0 q1 q2 v r0 r1 r2 r3 (W.setCell ⟨w.heap.size + 1 + 1, 3, none⟩ (.int .u64 v)) :=
  ⟨h.a1.far (by omega) _ _, h.x1.far (by omega) _ _, h.q1.set3 v, h.q2.far _ _, h.r1.far (by omega) _ _, h.r2.far _ _, bl_set h.hb (by dsimp only; omega) _⟩
theorem DW.far {w : World} {a b c d x y z u q0 q1 q2 q3 r0 r1 r2 r3 : Int} {W : World} (h : DW w a b c d x y z u q0 q1 q2 q3 r0 r1 r2 r3 W) {D : Nat} (hD : w.heap.size + 1 + 1 + 1 < D) (o : Nat) (v : Value) :
    DW w a b c d x y z u q0 q1 q2 q3 r0 r1 r2 r3 (W.setCell ⟨D, o, none⟩ v) :=
  ⟨h.a1.far (by omega) _ _, h.x1.far (by omega) _ _, h.q1.far (by omega) _ _, h.q2.far _ _, h.r1.far (by omega) _ _, h.r2.far _ _, bl_set h.hb (by dsimp only; omega) _⟩
theorem wrap_pow (r : Nat) (hr : r < 64) : IntKind.u64.wrap (2 ^ r) = 2 ^ r := by
  have h1 : (0 : Int) < 2 ^ r := Int.pow_pos (by omega)
  have h2 : (2 : Int) ^ r ≤ 2 ^ 63 := pow_mono (by omega)
  rw [show (2 : Int) ^ 63 = 9223372036854775808 from rfl] at h2
  rw [IntKind.wrap_u64]; omega

/-- behind 'shift := length(x) - length(y)' -/
def DivCut (w : World) (a b c d x y z u : Int) (s6 : Value) (W : World) : Prop :=
  ∃ n k : Int, Hid (LenOf (V4 a b c d) n ∧ LenOf (V4 x y z u) k) ∧ 0 ≤ n ∧ n ≤ 256 ∧ 0 ≤ k ∧ k ≤ 256 ∧ s6 = .int .i64 (n - k) ∧ DW w a b c d x y z u 0 0 0 0 a b c d W

def DivR (w : World) (a b c d x y z u : Int) (D : Nat) (bv : Value) (W : World) : Prop :=
  ∃ (bit : Int) (q0 q1 q2 q3 r0 r1 r2 r3 v0 v1 v2 v3 : Int), -1 ≤ bit ∧ bit ≤ 255 ∧ bv = .int .i64 bit ∧ In4 q0 q1 q2 q3 ∧ In4 r0 r1 r2 r3 ∧ In4 v0 v1 v2 v3 ∧
    DW w a b c d x y z u q0 q1 q2 q3 r0 r1 r2 r3 W ∧ At4 W D v0 v1 v2 v3 ∧ Free4 W D ∧ DivM (V4 a b c d) (V4 x y z u) (V4 q0 q1 q2 q3) (V4 r0 r1 r2 r3) (V4 v0 v1 v2 v3) bit

/-- behind the round's test -/
def DivC (w : World) (a b c d x y z u v0 v1 v2 v3 bit : Int) (D : Nat) (W : World) : Prop :=
  ∃ q0 q1 q2 q3 r0 r1 r2 r3 : Int, In4 q0 q1 q2 q3 ∧ In4 r0 r1 r2 r3 ∧ DW w a b c d x y z u q0 q1 q2 q3 r0 r1 r2 r3 W ∧ At4 W D v0 v1 v2 v3 ∧ Free4 W D ∧ DivM (V4 a b c d) (V4 x y z u) (V4 q0 q1 q2 q3) (V4 r0 r1 r2 r3) (V4 v0 v1 v2 v3 / 2) (bit - 1)

end Go.Proofs.Ytpjaefcmaiimlaa

/-
  Contract of wide.DivMod.
-/
namespace Go.Proofs.Ytpjaefcmaiimlaa
open Go.RowKit
attribute [local go_sem ↓] Go.wp_at_zero Go.wp_at_succ

/-- quotient and remainder of two numbers, as the chapter says; both 0 and ErrArg for a divisor of 0 -/
def DivOk (A B : Int) (mq : Bool) (q0 q1 q2 q3 : Int) (mr : Bool) (r0 r1 r2 r3 er : Int) : Prop :=
  (B ≠ 0 ∧ er = 0 ∧ A = WV mq q0 q1 q2 q3 * B + WV mr r0 r1 r2 r3 ∧ 0 ≤ WV mr r0 r1 r2 r3 ∧ WV mr r0 r1 r2 r3 < (if B < 0 then -B else B) ∧ Norm mq q0 q1 q2 q3 ∧ Norm mr r0 r1 r2 r3) ∨
  (B = 0 ∧ er = 2 ∧ (mq = false ∧ q0 = 0 ∧ q1 = 0 ∧ q2 = 0 ∧ q3 = 0) ∧ (mr = false ∧ r0 = 0 ∧ r1 = 0 ∧ r2 = 0 ∧ r3 = 0))
def DivModP (A B : Int) (w : World) (e : Ending) (w' : World) : Prop :=
  ∃ (mq : Bool) (q0 q1 q2 q3 : Int) (mr : Bool) (r0 r1 r2 r3 er : Int), In4 q0 q1 q2 q3 ∧ In4 r0 r1 r2 r3 ∧ Hid (DivOk A B mq q0 q1 q2 q3 mr r0 r1 r2 r3 er) ∧
    e = .returned (.tuple #[(.agg #[.bool mq, .int .u64 q0, .int .u64 q1, .int .u64 q2, .int .u64 q3]), (.agg #[.bool mr, .int .u64 r0, .int .u64 r1, .int .u64 r2, .int .u64 r3]), .int .i64 er]) ∧ Below w.heap.size w w'

/-- DivMod's memory: the arguments' boxes, the results -/
structure DM (w : World) (A B : Wd) (W : World) : Prop where
  a1 : At5 W w.heap.size 0 A
  x1 : At5 W (w.heap.size + 1) 0 B
  q1 : At5 W (w.heap.size + 1 + 1) 0 ⟨false, 0, 0, 0, 0⟩
  q2 : Free5 W (w.heap.size + 1 + 1) 0
  r1 : At5 W (w.heap.size + 1 + 1 + 1) 0 ⟨false, 0, 0, 0, 0⟩
  r2 : Free5 W (w.heap.size + 1 + 1 + 1) 0
  hb : Below w.heap.size w W
theorem DM.below {w : World} {A B : Wd} {W W' : World} (h : DM w A B W) (hb : Below W.heap.size W W') : DM w A B W' :=
  ⟨h.a1.below hb h.a1.lt, h.x1.below hb h.x1.lt, h.q1.below hb h.q1.lt, h.q2.below hb h.q1.lt, h.r1.below hb h.r1.lt, h.r2.below hb h.r1.lt, bl_trans h.hb hb⟩
theorem DM.far {w : World} {A B : Wd} {W : World} (h : DM w A B W) {g : Nat} (hg : w.heap.size + 1 + 1 + 1 < g) (o : Nat) (v : Value) : DM w A B (W.setCell ⟨g, o, none⟩ v) := by
  have far : ∀ b j, b ≠ g → (W.setCell ⟨g, o, none⟩ v).cell? ⟨b, j, none⟩ = W.cell? ⟨b, j, none⟩ := fun b j hne => World.cell?_setCell_far _ _ _ _ (fun e => hne e.symm)
  refine ⟨⟨?_, ?_, ?_, ?_, ?_⟩, ⟨?_, ?_, ?_, ?_, ?_⟩, ⟨?_, ?_, ?_, ?_, ?_⟩, ⟨?_, ?_, ?_, ?_, ?_⟩, ⟨?_, ?_, ?_, ?_, ?_⟩, ⟨?_, ?_, ?_, ?_, ?_⟩, bl_set h.hb (by dsimp only; omega) _⟩
  all_goals first
    | (rw [far _ _ (by omega)]; first | exact h.a1.c0 | exact h.a1.c1 | exact h.a1.c2 | exact h.a1.c3 | exact h.a1.c4 | exact h.x1.c0 | exact h.x1.c1 | exact h.x1.c2 | exact h.x1.c3 | exact h.x1.c4 | exact h.q1.c0 | exact h.q1.c1 | exact h.q1.c2 | exact h.q1.c3 | exact h.q1.c4 | exact h.r1.c0 | exact h.r1.c1 | exact h.r1.c2 | exact h.r1.c3 | exact h.r1.c4)
    | (rw [World.frozen?_setCell]; first | exact h.q2.f0 | exact h.q2.f1 | exact h.q2.f2 | exact h.q2.f3 | exact h.q2.f4 | exact h.r2.f0 | exact h.r2.f1 | exact h.r2.f2 | exact h.r2.f3 | exact h.r2.f4)

/-- behind the correction of the quotient and the rest -/
def DMCut (w : World) (m n : Bool) (a b c d x y z u : Int) (g : Nat) (W : World) : Prop :=
  ∃ q0 q1 q2 q3 r0 r1 r2 r3 : Int, In4 q0 q1 q2 q3 ∧ In4 r0 r1 r2 r3 ∧ DM w ⟨m, a, b, c, d⟩ ⟨n, x, y, z, u⟩ W ∧ At4 W g q0 q1 q2 q3 ∧ At4 W (g + 1) r0 r1 r2 r3 ∧
    WV m a b c d = (if (m != n) then - V4 q0 q1 q2 q3 else V4 q0 q1 q2 q3) * WV n x y z u + V4 r0 r1 r2 r3 ∧ V4 r0 r1 r2 r3 < V4 x y z u

theorem dm_end {m n : Bool} {a b c d x y z u e0 e1 e2 e3 o0 o1 o2 o3 : Int} {mq mr : Bool} (hY : V4 x y z u ≠ 0) (hO : In4 o0 o1 o2 o3) (hq : mq = ((m != n) && decide (V4 e0 e1 e2 e3 ≠ 0))) (hr : mr = (false && decide (V4 o0 o1 o2 o3 ≠ 0)))
    (h : WV m a b c d = (if (m != n) then - V4 e0 e1 e2 e3 else V4 e0 e1 e2 e3) * WV n x y z u + V4 o0 o1 o2 o3) (hlt : V4 o0 o1 o2 o3 < V4 x y z u) :
    WV n x y z u ≠ 0 ∧ (0 : Int) = 0 ∧ WV m a b c d = WV mq e0 e1 e2 e3 * WV n x y z u + WV mr o0 o1 o2 o3 ∧ 0 ≤ WV mr o0 o1 o2 o3 ∧ WV mr o0 o1 o2 o3 < (if WV n x y z u < 0 then - WV n x y z u else WV n x y z u) ∧ Norm mq e0 e1 e2 e3 ∧ Norm mr o0 o1 o2 o3 := by
  have q := norm_of hq
  have r := norm_of hr
  have b := v4_bounds hO
  have er : WV mr o0 o1 o2 o3 = V4 o0 o1 o2 o3 := by rw [r.1]; rfl
  refine ⟨fun e => hY (wv_zero.1 e), rfl, ?_, ?_, ?_, q.2, r.2⟩
  · rw [q.1, er]; exact h
  · rw [er]; exact b.1
  · rw [er]; unfold WV; cases n <;> simp <;> omega
theorem dm_pos {n : Bool} {a b c d x y z u Q R : Int} (h : V4 a b c d = Q * V4 x y z u + R) : WV false a b c d = (if (false != n) then -Q else Q) * WV n x y z u + R := by
  unfold WV; cases n <;> simp <;> grind
theorem dm_zero {n : Bool} {a b c d x y z u Q R : Int} (h0 : R = 0) (h : V4 a b c d = Q * V4 x y z u + R) : WV true a b c d = (if (true != n) then -Q else Q) * WV n x y z u + R := by
  subst h0
  unfold WV; cases n <;> simp <;> grind
theorem dm_neg {n : Bool} {a b c d x y z u A Q Y R S T co co2 : Int} (hA' : A = V4 a b c d) (hY' : Y = V4 x y z u) (hA : 0 ≤ A ∧ A < M256) (hY : 0 ≤ Y ∧ Y < M256) (hQ : 0 ≤ Q ∧ Q < M256) (hR : 0 ≤ R ∧ R < M256) (hS : 0 ≤ S ∧ S < M256) (hT : 0 ≤ T ∧ T < M256) (h0 : R ≠ 0) (h : A = Q * Y + R ∧ R < Y) (hs : (co = 0 ∨ co = 1) ∧ S + M256 * co = Q + V4 1 0 0 0) (ht : (co2 = 0 ∨ co2 = 1) ∧ T + R = Y + M256 * co2) :
    WV true a b c d = (if (true != n) then -S else S) * WV n x y z u + T ∧ T < V4 x y z u := by
  rw [v4_small] at hs
  have h2 : Q * 2 ≤ Q * Y := Int.mul_le_mul_of_nonneg_left (by omega) hQ.1
  have eS : S = Q + 1 := by
    rcases hs.1 with rfl | rfl
    · omega
    · have := hs.2
      have := h.1
      generalize Q * Y = p at *
      unfold M256 at *; omega
  have eT : T = Y - R := by
    rcases ht.1 with rfl | rfl
    · omega
    · have := ht.2
      unfold M256 at *; omega
  subst eS eT
  rw [← hY']
  refine ⟨?_, by omega⟩
  have e := h.1
  unfold WV
  rw [← hA', ← hY']
  cases n <;> simp <;> grind

end Go.Proofs.Ytpjaefcmaiimlaa

/-
  Contracts: math/bits.Div64 by ten, wide.tenth, wide.tenfold.
-/
namespace Go.Proofs.Ytpjaefcmaiimlaa
open Go.RowKit

theorem or60 (hi lo : Int) (h : 0 < hi) (h9 : hi < 10) (h0 : 0 ≤ lo) (h1 : lo < 18446744073709551616) : bits BinOp.or IntKind.u64 (hi * 1152921504606846976) (lo / 16) = hi * 1152921504606846976 + lo / 16 :=
  orU 60 _ hi _ (by rw [show (2 : Int) ^ 60 = 1152921504606846976 from rfl] <;> omega) (by omega) (by omega) (by rw [show (2 : Int) ^ 60 = 1152921504606846976 from rfl] <;> omega) (by omega) (by omega)
theorem and_y0 : bits BinOp.and IntKind.u64 11529215046068469760 4294967295 = 0 := by
  rw [and_low32 _ (by omega) (by omega)]; rfl

def Div10P (n : Int) (w : World) (e : Ending) (w' : World) : Prop :=
  ∃ q r : Int, In1 q ∧ Hid (q * 10 + r = n ∧ 0 ≤ r ∧ r < 10) ∧ e = .returned (.tuple #[.int .u64 q, .int .u64 r]) ∧ Below w.heap.size w w'

/-- a tenth of a number, and its last digit -/
def TenthP (V : Int) (w : World) (e : Ending) (w' : World) : Prop :=
  ∃ s0 s1 s2 s3 r : Int, In4 s0 s1 s2 s3 ∧ Hid (V = V4 s0 s1 s2 s3 * 10 + r ∧ 0 ≤ r ∧ r < 10) ∧ e = .returned (.tuple #[(.agg #[.int .u64 s0, .int .u64 s1, .int .u64 s2, .int .u64 s3]), .int .u64 r]) ∧ Below w.heap.size w w'

structure TW (w : World) (g : Nat) (a b c d : Int) (W : World) : Prop where
  x1 : At4 W w.heap.size a b c d
  x2 : Free4 W w.heap.size
  r1 : At4 W g 0 0 0 0
  r2 : Free4 W g
  hb : Below w.heap.size w W
theorem TW.below {w : World} {g : Nat} {a b c d : Int} {W W' : World} (h : TW w g a b c d W) (hb : Below W.heap.size W W') : TW w g a b c d W' :=
  ⟨h.x1.below hb, h.x2.below h.x1.lt hb, h.r1.below hb, h.r2.below h.r1.lt hb, bl_trans h.hb hb⟩
theorem TW.set0 {w : World} {g : Nat} {a b c d : Int} {W : World} (h : TW w g a b c d W) (hg : w.heap.size < g) (v : Int) : TW w g v b c d (W.setCell ⟨w.heap.size, 0, none⟩ (.int .u64 v)) :=
  ⟨h.x1.set0 v, h.x2.far _ _, h.r1.far (by omega) _ _, h.r2.far _ _, bl_set h.hb (by dsimp only; omega) _⟩
theorem TW.set1 {w : World} {g : Nat} {a b c d : Int} {W : World} (h : TW w g a b c d W) (hg : w.heap.size < g) (v : Int) : TW w g a v c d (W.setCell ⟨w.heap.size, 1, none⟩ (.int .u64 v)) :=
  ⟨h.x1.set1 v, h.x2.far _ _, h.r1.far (by omega) _ _, h.r2.far _ _, bl_set h.hb (by dsimp only; omega) _⟩
theorem TW.set2 {w : World} {g : Nat} {a b c d : Int} {W : World} (h : TW w g a b c d W) (hg : w.heap.size < g) (v : Int) : TW w g a b v d (W.setCell ⟨w.heap.size, 2, none⟩ (.int .u64 v)) :=
  ⟨h.x1.set2 v, h.x2.far _ _, h.r1.far (by omega) _ _, h.r2.far _ _, bl_set h.hb (by dsimp only; omega) _⟩
theorem TW.set3 {w : World} {g : Nat} {a b c d : Int} {W : World} (h : TW w g a b c d W) (hg : w.heap.size < g) (v : Int) : TW w g a b c v (W.setCell ⟨w.heap.size, 3, none⟩ (.int .u64 v)) :=
  ⟨h.x1.set3 v, h.x2.far _ _, h.r1.far (by omega) _ _, h.r2.far _ _, bl_set h.hb (by dsimp only; omega) _⟩

/-- ten times a number and a digit, and what is carried out -/
def TenfoldP (n : Int) (w : World) (e : Ending) (w' : World) : Prop :=
  ∃ s0 s1 s2 s3 co : Int, In4 s0 s1 s2 s3 ∧ In1 co ∧ Hid (V4 s0 s1 s2 s3 + M256 * co = n) ∧ e = .returned (.tuple #[(.agg #[.int .u64 s0, .int .u64 s1, .int .u64 s2, .int .u64 s3]), .int .u64 co]) ∧ Below w.heap.size w w'

end Go.Proofs.Ytpjaefcmaiimlaa

/-
  Contracts: strings.CutPrefix, wide.isDecimal, wide.Parse at a text of digits.
-/
namespace Go.Proofs.Ytpjaefcmaiimlaa
open Go.RowKit

/-- s is the text of a number without a sign and without a needless 0 in front -/
structure Dec (s : ByteArray) : Prop where
  pos : 0 < s.size
  small : s.size ≤ 1000
  lead : ∀ h : 0 < s.size, (s[0]'h).toNat = 48 → s.size = 1
  dig : ∀ (i : Nat) (h : i < s.size), 48 ≤ (s[i]'h).toNat ∧ (s[i]'h).toNat ≤ 57

theorem toList_ne {s : ByteArray} (h : 0 < s.size) : s.toList.isEmpty = false := by
  rw [ByteArray.toList_eq]
  rcases hl : s.data.toList with _ | ⟨x, l⟩
  · have : s.size = 0 := by rw [← ByteArray.size_data, ← Array.length_toList, hl]; rfl
    omega
  · rfl
theorem extract_first {s : ByteArray} (h : 0 < s.size) : (s.extract 0 1).toList = [s[0]'h] := by
  rw [ByteArray.toList_eq]
  have : (s.extract 0 1).data = s.data.extract 0 1 := by simp
  rw [this]
  apply List.ext_getElem
  · simp; omega
  · intro i h1 h2
    have : i = 0 := by simp at h2; omega
    subst this
    simp; rfl

set_option maxHeartbeats 1000000 in
set_option maxRecDepth 100000 in
theorem cutPrefix_no (s : ByteArray) (hs : Dec s) (w : World) :
    Calls Try.prog 76 #[.string s, .string ⟨#[45]⟩] w fun e w' => e = .returned (.tuple #[.string s, .bool false]) ∧ w = w' := by
  have h1 := hs.pos
  have h2 := hs.small
  have h3 : ((s.extract 0 1).toList == [45]) = false := by
    rw [extract_first h1]
    have := hs.dig 0 h1
    simp
    intro e
    rw [e] at this
    revert this; decide
  clear hs
  go_enter Try.func76, Try.ntmps76
  go_wp2
  refine bodyPost_ret (v := .tuple #[.string s, .bool false]) (by simp [results, Try.results76, go_sem]) rfl ⟨rfl, rfl⟩

end Go.Proofs.Ytpjaefcmaiimlaa

/-
  Contract of wide.Parse at a text of digits.
-/
namespace Go.Proofs.Ytpjaefcmaiimlaa
open Go.RowKit

/-- the number of the first n digits -/
def decTo (s : ByteArray) : Nat → Int
  | 0 => 0
  | n + 1 => decTo s n * 10 + (((if h : n < s.size then (s[n]'h).toNat else 48 : Nat) : Int) - 48)
theorem decTo_nonneg {s : ByteArray} (hs : Dec s) : ∀ n, 0 ≤ decTo s n
  | 0 => by simp [decTo]
  | n + 1 => by
    have := decTo_nonneg hs n
    simp only [decTo]
    split
    · rename_i h; have := hs.dig n h; omega
    · omega
theorem decTo_mono {s : ByteArray} (hs : Dec s) (n : Nat) : ∀ k, decTo s n ≤ decTo s (n + k)
  | 0 => by simp
  | k + 1 => by
    have h1 := decTo_mono hs n k
    have h2 := decTo_nonneg hs (n + k)
    rw [← Nat.add_assoc]
    simp only [decTo]
    split
    · rename_i h; have := hs.dig (n + k) h; omega
    · omega
theorem decTo_succ {s : ByteArray} (n : Nat) (h : n < s.size) : decTo s (n + 1) = decTo s n * 10 + (((s[n]'h).toNat : Int) - 48) := by
  simp only [decTo]; rw [dif_pos h]

structure PW (w : World) (W : World) : Prop where
  r1 : At5 W w.heap.size 0 ⟨false, 0, 0, 0, 0⟩
  r2 : Free5 W w.heap.size 0
  hb : Below w.heap.size w W
theorem PW.below {w W W' : World} (h : PW w W) (hb : Below W.heap.size W W') : PW w W' := ⟨h.r1.below hb h.r1.lt, h.r2.below hb h.r1.lt, bl_trans h.hb hb⟩

/-- ahead of a round: k the iterator's block, g the number's -/
def ParseR (w : World) (s : ByteArray) (g k : Nat) (W : World) : Prop :=
  ∃ (pos : Nat) (a b c d : Int), pos ≤ s.size ∧ W.heap[k]? = some (.stringIter s pos) ∧ In4 a b c d ∧ At4 W g a b c d ∧ Free4 W g ∧ PW w W ∧ V4 a b c d = decTo s pos

theorem PW.iterAt {w W : World} (h : PW w W) {k : Nat} (hk : w.heap.size < k) (s : ByteArray) (p : Nat) : PW w (W.iterAt k s p) := by
  have hc : ∀ b o, b ≠ k → (W.iterAt k s p).cell? ⟨b, o, none⟩ = W.cell? ⟨b, o, none⟩ := fun b o hne => World.cell?_of_block (Lib.iterAt_other W k b s p hne)
  have hf : ∀ b o, b ≠ k → (W.iterAt k s p).frozen? ⟨b, o, none⟩ = W.frozen? ⟨b, o, none⟩ := fun b o hne => World.frozen?_of_block (Lib.iterAt_other W k b s p hne)
  refine ⟨⟨?_, ?_, ?_, ?_, ?_⟩, ⟨?_, ?_, ?_, ?_, ?_⟩, Lib.below_iterAt h.hb (by omega) s p⟩
  · rw [hc _ _ (by omega)]; exact h.r1.c0
  · rw [hc _ _ (by omega)]; exact h.r1.c1
  · rw [hc _ _ (by omega)]; exact h.r1.c2
  · rw [hc _ _ (by omega)]; exact h.r1.c3
  · rw [hc _ _ (by omega)]; exact h.r1.c4
  · rw [hf _ _ (by omega)]; exact h.r2.f0
  · rw [hf _ _ (by omega)]; exact h.r2.f1
  · rw [hf _ _ (by omega)]; exact h.r2.f2
  · rw [hf _ _ (by omega)]; exact h.r2.f3
  · rw [hf _ _ (by omega)]; exact h.r2.f4
theorem At4.iterAt {W : World} {g : Nat} {a b c d : Int} (h : At4 W g a b c d) {k : Nat} (hk : g ≠ k) (s : ByteArray) (p : Nat) : At4 (W.iterAt k s p) g a b c d := by
  have hc : ∀ o, (W.iterAt k s p).cell? ⟨g, o, none⟩ = W.cell? ⟨g, o, none⟩ := fun o => World.cell?_of_block (Lib.iterAt_other W k g s p hk)
  exact ⟨(hc _).trans h.c0, (hc _).trans h.c1, (hc _).trans h.c2, (hc _).trans h.c3⟩
theorem Free4.iterAt {W : World} {g : Nat} (h : Free4 W g) {k : Nat} (hk : g ≠ k) (s : ByteArray) (p : Nat) : Free4 (W.iterAt k s p) g := by
  have hc : ∀ o, (W.iterAt k s p).frozen? ⟨g, o, none⟩ = W.frozen? ⟨g, o, none⟩ := fun o => World.frozen?_of_block (Lib.iterAt_other W k g s p hk)
  exact ⟨(hc _).trans h.f0, (hc _).trans h.f1, (hc _).trans h.f2, (hc _).trans h.f3⟩
theorem PW.far {w W : World} (h : PW w W) {g : Nat} (hg : w.heap.size < g) (o : Nat) (v : Value) : PW w (W.setCell ⟨g, o, none⟩ v) := by
  have far : ∀ b j, g ≠ b → (W.setCell ⟨g, o, none⟩ v).cell? ⟨b, j, none⟩ = W.cell? ⟨b, j, none⟩ := fun b j hne => World.cell?_setCell_far _ _ _ _ hne
  refine ⟨⟨?_, ?_, ?_, ?_, ?_⟩, ⟨?_, ?_, ?_, ?_, ?_⟩, bl_set h.hb (by dsimp only; omega) _⟩
  · rw [far _ _ (by omega)]; exact h.r1.c0
  · rw [far _ _ (by omega)]; exact h.r1.c1
  · rw [far _ _ (by omega)]; exact h.r1.c2
  · rw [far _ _ (by omega)]; exact h.r1.c3
  · rw [far _ _ (by omega)]; exact h.r1.c4
  · rw [World.frozen?_setCell]; exact h.r2.f0
  · rw [World.frozen?_setCell]; exact h.r2.f1
  · rw [World.frozen?_setCell]; exact h.r2.f2
  · rw [World.frozen?_setCell]; exact h.r2.f3
  · rw [World.frozen?_setCell]; exact h.r2.f4

def ParseP (s : ByteArray) (w : World) (e : Ending) (w' : World) : Prop :=
  ∃ (m : Bool) (a b c d er : Int), In4 a b c d ∧ Hid ((er = 0 ∧ m = false ∧ V4 a b c d = decTo s s.size) ∨ (er = 10 ∧ (m = false ∧ a = 0 ∧ b = 0 ∧ c = 0 ∧ d = 0) ∧ M256 ≤ decTo s s.size)) ∧ e = .returned (.tuple #[(.agg #[.bool m, .int .u64 a, .int .u64 b, .int .u64 c, .int .u64 d]), .int .i64 er]) ∧ Below w.heap.size w w'

end Go.Proofs.Ytpjaefcmaiimlaa

/-
  Plain facts on decimal texts.
-/
namespace Go.Proofs.Ytpjaefcmaiimlaa
open Go.RowKit

/-- decimal digits of n, the first one first; none for 0 -/
def digs : Nat → Nat → List Int
  | 0, _ => []
  | f + 1, n => if n = 0 then [] else digs f (n / 10) ++ [48 + ((n % 10 : Nat) : Int)]
/-- a number's text -/
def textOf (m : Bool) (n : Nat) : List Int := if n = 0 then [48] else (if m then [45] else []) ++ digs 80 n

theorem digs_fuel : ∀ (f n : Nat), n < 10 ^ f → ∀ g, f ≤ g → digs g n = digs f n
  | 0, n, h, g, _ => by
    have : n = 0 := by simpa using h
    subst this
    cases g <;> simp [digs]
  | f + 1, n, h, g, hg => by
    obtain ⟨k, rfl⟩ := Nat.exists_eq_add_of_le hg
    rw [show f + 1 + k = (f + k) + 1 by omega]
    simp only [digs]
    split
    · rfl
    · rw [digs_fuel f (n / 10) (by rw [Nat.pow_succ] at h; omega) (f + k) (by omega)]
theorem digs_length : ∀ (f n : Nat), (digs f n).length ≤ f
  | 0, n => by simp [digs]
  | f + 1, n => by
    simp only [digs]
    split
    · simp
    · have := digs_length f (n / 10)
      simp; omega
theorem digs_le (k n : Nat) (h : n < 10 ^ k) (hk : k ≤ 80) : (digs 80 n).length ≤ k := by
  rw [digs_fuel k n h 80 hk]; exact digs_length k n
theorem digs_step (n : Nat) (h0 : n ≠ 0) (h : n < 10 ^ 79) : digs 80 n = digs 80 (n / 10) ++ [48 + ((n % 10 : Nat) : Int)] := by
  have e : digs 80 n = digs 79 (n / 10) ++ [48 + ((n % 10 : Nat) : Int)] := by
    show (if n = 0 then [] else digs 79 (n / 10) ++ [48 + ((n % 10 : Nat) : Int)]) = _
    rw [if_neg h0]
  rw [e, digs_fuel 79 (n / 10) (by omega) 80 (by omega)]
theorem m256_lt : M256 < 10 ^ 78 := by decide +kernel

end Go.Proofs.Ytpjaefcmaiimlaa

/-
  Contract of wide.Text.
-/
namespace Go.Proofs.Ytpjaefcmaiimlaa
open Go.RowKit

/-- the bytes ds from the place 'at' on -/
def BytesAt (W : World) (g at' : Nat) (ds : List Int) : Prop := ∀ i, i < ds.length → W.cell? ⟨g, at' + i, none⟩ = some (.int .u8 (ds.getD i 0))
structure TextW (w : World) (x : Wd) (g : Nat) (at' : Nat) (ds : List Int) (W : World) : Prop where
  a1 : At5 W w.heap.size 0 x
  t1 : ∀ i, i < 79 → ∃ v : Int, W.cell? ⟨g, i, none⟩ = some (.int .u8 v)
  t2 : ∀ i, i < 79 → W.frozen? ⟨g, i, none⟩ = false
  t3 : BytesAt W g at' ds
  hb : Below w.heap.size w W
theorem TextW.lt {w : World} {x : Wd} {g at' : Nat} {ds : List Int} {W : World} (h : TextW w x g at' ds W) : g < W.heap.size := by
  obtain ⟨v, hv⟩ := h.t1 0 (by omega)
  exact cell_lt hv
theorem TextW.below {w : World} {x : Wd} {g at' : Nat} {ds : List Int} {W W' : World} (h : TextW w x g at' ds W) (hb : Below W.heap.size W W') : TextW w x g at' ds W' :=
  ⟨h.a1.below hb h.a1.lt, fun i hi => by
    obtain ⟨v, hv⟩ := h.t1 i hi
    exact ⟨v, (hb.cell (p := ⟨g, i, none⟩) h.lt).trans hv⟩, fun i hi => (hb.frozen (p := ⟨g, i, none⟩) h.lt).trans (h.t2 i hi), fun i hi => (hb.cell (p := ⟨g, _, none⟩) h.lt).trans (h.t3 i hi), bl_trans h.hb hb⟩
theorem TextW.far {w : World} {x : Wd} {g at' : Nat} {ds : List Int} {W : World} (h : TextW w x g at' ds W) {k : Nat} (hk : k ≠ g) (hw : w.heap.size < k) (o : Nat) (v : Value) : TextW w x g at' ds (W.setCell ⟨k, o, none⟩ v) := by
  have far : ∀ b j, k ≠ b → (W.setCell ⟨k, o, none⟩ v).cell? ⟨b, j, none⟩ = W.cell? ⟨b, j, none⟩ := fun b j hne => World.cell?_setCell_far _ _ _ _ hne
  refine ⟨⟨?_, ?_, ?_, ?_, ?_⟩, fun i hi => ?_, fun i hi => (World.frozen?_setCell _ _ _ _).trans (h.t2 i hi), fun i hi => (far _ _ hk).trans (h.t3 i hi), bl_set h.hb (by dsimp only; omega) _⟩
  · rw [far _ _ (by omega)]; exact h.a1.c0
  · rw [far _ _ (by omega)]; exact h.a1.c1
  · rw [far _ _ (by omega)]; exact h.a1.c2
  · rw [far _ _ (by omega)]; exact h.a1.c3
  · rw [far _ _ (by omega)]; exact h.a1.c4
  · obtain ⟨v, hv⟩ := h.t1 i hi
    exact ⟨v, (far _ _ hk).trans hv⟩
theorem TextW.put {w : World} {x : Wd} {g at' : Nat} {ds : List Int} {W : World} (h : TextW w x g (at' + 1) ds W) (hg : w.heap.size < g) (hat : at' < 79) (v : Int) : TextW w x g at' (v :: ds) (W.setCell ⟨g, at', none⟩ (.int .u8 v)) := by
  have far : ∀ b j, g ≠ b → (W.setCell ⟨g, at', none⟩ (.int .u8 v)).cell? ⟨b, j, none⟩ = W.cell? ⟨b, j, none⟩ := fun b j hne => World.cell?_setCell_far _ _ _ _ hne
  have oth : ∀ j, j ≠ at' → (W.setCell ⟨g, at', none⟩ (.int .u8 v)).cell? ⟨g, j, none⟩ = W.cell? ⟨g, j, none⟩ := fun j hne => World.cell?_setCell_other _ _ _ _ (by intro e; injection e with _ e2; exact hne e2.symm)
  obtain ⟨v0, hv0⟩ := h.t1 at' hat
  have same : (W.setCell ⟨g, at', none⟩ (.int .u8 v)).cell? ⟨g, at', none⟩ = some (.int .u8 v) := World.cell?_setCell_same _ _ _ hv0
  refine ⟨⟨?_, ?_, ?_, ?_, ?_⟩, fun i hi => ?_, fun i hi => (World.frozen?_setCell _ _ _ _).trans (h.t2 i hi), fun i hi => ?_, bl_set h.hb (by dsimp only; omega) _⟩
  · rw [far _ _ (by omega)]; exact h.a1.c0
  · rw [far _ _ (by omega)]; exact h.a1.c1
  · rw [far _ _ (by omega)]; exact h.a1.c2
  · rw [far _ _ (by omega)]; exact h.a1.c3
  · rw [far _ _ (by omega)]; exact h.a1.c4
  · by_cases e : i = at'
    · subst e; exact ⟨v, same⟩
    · obtain ⟨v1, hv1⟩ := h.t1 i hi
      exact ⟨v1, (oth i e).trans hv1⟩
  · cases i with
    | zero => simpa using same
    | succ i =>
      rw [oth _ (by omega)]
      have := h.t3 i (by simpa using hi)
      rw [show at' + (i + 1) = at' + 1 + i by omega]
      simpa using this

/-- ahead of a round: the rest, and the digits that are written -/
def TextR (w : World) (x : Wd) (g : Nat) (s4 s5 : Value) (W : World) : Prop :=
  ∃ (at' : Nat) (ds : List Int) (k : Nat) (p q r s : Int), s4 = .int .i64 at' ∧ s5 = .pointer (some ⟨k, 0, none⟩) ∧ In4 p q r s ∧ At4 W k p q r s ∧ Free4 W k ∧ k ≠ g ∧ w.heap.size < k ∧ TextW w x g at' ds W ∧
    ds.length + at' = 79 ∧ digs 80 (V4 x.a x.b x.c x.d).toNat = digs 80 (V4 p q r s).toNat ++ ds ∧ (digs 80 (V4 p q r s).toNat).length + 1 ≤ at'

theorem text_step {V S dg : Int} (hV : 0 ≤ V ∧ V < M256) (hS : 0 ≤ S ∧ S < M256) (h0 : V ≠ 0) (h : V = S * 10 + dg ∧ 0 ≤ dg ∧ dg < 10) : digs 80 V.toNat = digs 80 S.toNat ++ [48 + dg] ∧ True := by
  refine ⟨?_, trivial⟩
  have h78 := m256_lt
  have hlt : V.toNat < 10 ^ 79 := by
    have h1 : ((V.toNat : Nat) : Int) < 10 ^ 78 := by omega
    have h2 : V.toNat < 10 ^ 78 := by exact_mod_cast h1
    omega
  rw [digs_step V.toNat (by omega) hlt, show V.toNat / 10 = S.toNat by omega, show ((V.toNat % 10 : Nat) : Int) = dg by omega]

theorem text_pos {V : Int} {ds : List Int} {n : Nat} (hV : 0 ≤ V ∧ V < M256) (h0 : V ≠ 0) (h : digs 80 V.toNat = ds) (hl : ds.length + n = 79) : n < 79 := by
  have h78 := m256_lt
  have hlt : V.toNat < 10 ^ 79 := by
    have h1 : ((V.toNat : Nat) : Int) < 10 ^ 78 := by omega
    have h2 : V.toNat < 10 ^ 78 := by exact_mod_cast h1
    omega
  rw [digs_step V.toNat (by omega) hlt] at h
  rw [← h] at hl
  simp at hl
  omega

def TextP (m : Bool) (V : Int) (w : World) (e : Ending) (w' : World) : Prop := e = .returned (.string (strOfNums (textOf m V.toNat))) ∧ Below w.heap.size w w'

end Go.Proofs.Ytpjaefcmaiimlaa

/-
  Contracts at the chapter's examples: what known() calls, with its answers written out.
-/
namespace Go.Proofs.Ytpjaefcmaiimlaa
open Go.RowKit

/-- it answers v, and all that was there is as it was -/
def Gives (v : Value) (w : World) (e : Ending) (w' : World) : Prop := e = .returned v ∧ Below w.heap.size w w'

/-- two Wides in a new block -/
theorem wides2 (w : World) (x y : Wd) (hx : x.ok) (hy : y.ok) (t : TypeId) : WidesAt (w.alloc (.cells #[.bool x.m, .int .u64 x.a, .int .u64 x.b, .int .u64 x.c, .int .u64 x.d, .bool y.m, .int .u64 y.a, .int .u64 y.b, .int .u64 y.c, .int .u64 y.d] t)) w.heap.size 0 [x, y] := by
  intro i hi
  have : i = 0 ∨ i = 1 := by simp at hi; omega
  rcases this with rfl | rfl
  · exact ⟨by constructor <;> simp [go_sem, Wd.get], hx⟩
  · exact ⟨by constructor <;> simp [go_sem, Wd.get], hy⟩
theorem wides3 (w : World) (x y z : Wd) (hx : x.ok) (hy : y.ok) (hz : z.ok) (t : TypeId) : WidesAt (w.alloc (.cells #[.bool x.m, .int .u64 x.a, .int .u64 x.b, .int .u64 x.c, .int .u64 x.d, .bool y.m, .int .u64 y.a, .int .u64 y.b, .int .u64 y.c, .int .u64 y.d, .bool z.m, .int .u64 z.a, .int .u64 z.b, .int .u64 z.c, .int .u64 z.d] t)) w.heap.size 0 [x, y, z] := by
  intro i hi
  have : i = 0 ∨ i = 1 ∨ i = 2 := by simp at hi; omega
  rcases this with rfl | rfl | rfl
  · exact ⟨by constructor <;> simp [go_sem, Wd.get], hx⟩
  · exact ⟨by constructor <;> simp [go_sem, Wd.get], hy⟩
  · exact ⟨by constructor <;> simp [go_sem, Wd.get], hz⟩

/-- a fold's answer, where what it comes to is known -/
theorem fold_val {op : Int → Int → Int} {acc : Int} {l : List Wd} {w : World} {e : Ending} {w' : World} (h : FoldP op acc l w e w') {v : Int} (hv : fres op acc l = some v) :
    ∃ (m : Bool) (a b c d : Int), In4 a b c d ∧ WV m a b c d = v ∧ Norm m a b c d ∧ e = .returned (.tuple #[(.agg #[.bool m, .int .u64 a, .int .u64 b, .int .u64 c, .int .u64 d]), .int .i64 0]) ∧ Below w.heap.size w w' := by
  obtain ⟨m, a, b, c, d, er, hi, hk, rfl, hb⟩ := h
  rcases hk.out with ⟨rfl, h1, h2⟩ | ⟨-, -, h1⟩
  · rw [hv] at h1
    exact ⟨m, a, b, c, d, hi, (Option.some.inj h1).symm, h2, rfl, hb⟩
  · rw [hv] at h1; cases h1
theorem fold_none {op : Int → Int → Int} {acc : Int} {l : List Wd} {w : World} {e : Ending} {w' : World} (h : FoldP op acc l w e w') (hv : fres op acc l = none) :
    e = .returned (.tuple #[(.agg #[.bool false, .int .u64 0, .int .u64 0, .int .u64 0, .int .u64 0]), .int .i64 10]) ∧ Below w.heap.size w w' := by
  obtain ⟨m, a, b, c, d, er, hi, hk, rfl, hb⟩ := h
  rcases hk.out with ⟨rfl, h1, h2⟩ | ⟨rfl, ⟨rfl, rfl, rfl, rfl, rfl⟩, h1⟩
  · rw [hv] at h1; cases h1
  · exact ⟨rfl, hb⟩

theorem in1_lit (n : Int) (h0 : 0 ≤ n) (h1 : n < 18446744073709551616) : In1 n := ⟨h0, h1⟩
theorem in4_b64 : In4 0 1 0 0 := by unfold In4 In1; omega
theorem wv_b64 : WV false 0 1 0 0 = 18446744073709551616 := by unfold WV V4; simp
theorem norm_f (a b c d : Int) : Norm false a b c d := fun h => by cases h

def str20 : ByteArray := ⟨#[49, 56, 52, 52, 54, 55, 52, 52, 48, 55, 51, 55, 48, 57, 53, 53, 49, 54, 49, 54]⟩
theorem size20 : str20.size = 20 := rfl
theorem key20 : ∀ i : Fin 20, 48 ≤ (str20[i.val]'(by rw [size20]; exact i.2)).toNat ∧ (str20[i.val]'(by rw [size20]; exact i.2)).toNat ≤ 57 := by decide +kernel
theorem first20 : (str20[0]'(by rw [size20]; omega)).toNat = 49 := by decide
theorem dec20 : Dec str20 :=
  ⟨by rw [size20]; omega, by rw [size20]; omega, fun _ e => absurd (first20.symm.trans e) (by decide), fun i h => key20 ⟨i, by rw [← size20]; exact h⟩⟩
theorem val20 : decTo str20 str20.size = 18446744073709551616 := by decide +kernel
end Go.Proofs.Ytpjaefcmaiimlaa
