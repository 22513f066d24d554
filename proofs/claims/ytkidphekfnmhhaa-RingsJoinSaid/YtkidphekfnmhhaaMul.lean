/-
  Contracts: wide.Of, math/bits.Mul64, wide.timesPlus.
-/
import Derived.Test.YtkidphekfnmhhaaLimbs
namespace Go.Proofs.Ytkidphekfnmhhaa
open Go.RowKit

def OfP (n : Int) (w : World) (e : Ending) (w' : World) : Prop :=
  ∃ (m : Bool) (a : Int), In1 a ∧ Hid (m = decide (n < 0) ∧ a = if n < 0 then -n else n) ∧ e = .returned (.agg #[.bool m, .int .u64 a, .int .u64 0, .int .u64 0, .int .u64 0]) ∧ Below w.heap.size w w'

set_option maxHeartbeats 1000000 in
set_option maxRecDepth 100000 in
theorem of_c (n : Int) (h0 : -9223372036854775808 ≤ n) (h1 : n ≤ 9223372036854775807) (w : World) :
    Calls Try.prog 59 #[.int .i64 n] w (OfP n w) := by
  by_cases h : n < 0
  · have e : IntKind.u64.wrap (-IntKind.u64.wrap n) = -n := by rw [IntKind.wrap_u64, IntKind.wrap_u64]; omega
    have E := hid_mk e
    clear e
    go_enter Try.func59, Try.ntmps59
    go_wp2
    rw [E.out]
    exact bodyPost_ret (v := (.agg #[.bool true, .int .u64 (-n), .int .u64 0, .int .u64 0, .int .u64 0])) (by simp [results, Try.results59, go_sem]) rfl ⟨true, -n, by unfold In1; omega, by unfold Hid; simp [h], rfl, by repeat (first | (with_reducible exact Below.refl _ _) | (with_reducible refine bl_alloc ?_ _) | (with_reducible refine Below.drew ?_) | (with_reducible refine below_drewN' ?_ _) | ((with_reducible refine bl_set ?_ ?_ _); (rotate_left; (dsimp only; omega))))⟩
  · go_enter Try.func59, Try.ntmps59
    go_wp2
    exact bodyPost_ret (v := (.agg #[.bool false, .int .u64 n, .int .u64 0, .int .u64 0, .int .u64 0])) (by simp [results, Try.results59, go_sem]) rfl ⟨false, n, by unfold In1; omega, by unfold Hid; rw [if_neg (by omega)]; simp; omega, rfl, by repeat (first | (with_reducible exact Below.refl _ _) | (with_reducible refine bl_alloc ?_ _) | (with_reducible refine Below.drew ?_) | (with_reducible refine below_drewN' ?_ _) | ((with_reducible refine bl_set ?_ ?_ _); (rotate_left; (dsimp only; omega))))⟩

theorem and_low32_mod (z : Int) : bits .and .u64 (z % 18446744073709551616) 4294967295 = z % 18446744073709551616 % 4294967296 := and_low32 _ (by omega) (by omega)

/-- two limbs -/
def TwoP (n : Int) (w : World) (e : Ending) (w' : World) : Prop :=
  ∃ h l : Int, In1 h ∧ In1 l ∧ Hid (h * 18446744073709551616 + l = n) ∧ e = .returned (.tuple #[.int .u64 h, .int .u64 l]) ∧ w = w'
def TwoP' (n : Int) (w : World) (e : Ending) (w' : World) : Prop :=
  ∃ l h : Int, In1 l ∧ In1 h ∧ Hid (h * 18446744073709551616 + l = n) ∧ e = .returned (.tuple #[.int .u64 l, .int .u64 h]) ∧ w = w'

theorem mul_le (x y : Int) (hx : In1 x) (hy : In1 y) : 0 ≤ x * y ∧ x * y ≤ 340282366920938463426481119284349108225 := by
  unfold In1 at hx hy
  refine ⟨Int.mul_nonneg hx.1 hy.1, ?_⟩
  have := Int.mul_le_mul (a := x) (b := y) (c := 18446744073709551615) (d := 18446744073709551615) (by omega) (by omega) hy.1 (by omega)
  simpa using this

set_option maxHeartbeats 1000000 in
set_option maxRecDepth 100000 in
theorem mul64_c (x y : Int) (hx : In1 x) (hy : In1 y) (w : World) :
    Calls Try.prog 95 #[.int .u64 x, .int .u64 y] w (TwoP (x * y) w) := by
  have hp := hid_mk (mul_le x y hx hy)
  unfold In1 at hx hy
  obtain ⟨hx0, hx1⟩ := hx
  obtain ⟨hy0, hy1⟩ := hy
  go_enter Try.func95, Try.ntmps95
  go_wp2
  simp only [IntKind.wrap_u64, and_low32 x hx0 hx1, and_low32 y hy0 hy1, and_low32_mod]
  rw [mul64_arith x y hx0 hx1 hy0 hy1]
  refine bodyPost_ret (v := .tuple #[.int .u64 (x * y / 18446744073709551616), .int .u64 (x * y % 18446744073709551616)]) (by simp [results, Try.results95, go_sem]) rfl ⟨_, _, ?_, ?_, ?_, rfl, rfl⟩
  all_goals have := hp.out
  all_goals generalize x * y = p at *
  all_goals first | (unfold Hid; omega) | (unfold In1; omega)

set_option maxHeartbeats 1000000 in
set_option maxRecDepth 100000 in
theorem timesPlus_c (x y a b : Int) (hx : In1 x) (hy : In1 y) (ha : In1 a) (hb : In1 b) (w : World) :
    Calls Try.prog 91 #[.int .u64 x, .int .u64 y, .int .u64 a, .int .u64 b] w (TwoP' (x * y + a + b) w) := by
  have hp := hid_mk (mul_le x y hx hy)
  go_enter Try.func91, Try.ntmps91
  go_wp2_with fail
  refine (mul64_c x y hx hy _).mono ?_
  rintro e w' ⟨h, l, hh, hl, hv, rfl, rfl⟩
  obtain ⟨s1, c1, g1, e1⟩ := add64_ex l a 0 hl ha (by omega) (by omega)
  obtain ⟨s2, c2, g2, e2⟩ := add64_ex s1 b 0 g1.out.1 hb (by omega) (by omega)
  have Hh := hid_mk (And.intro hh (And.intro hl (And.intro hx (And.intro hy (And.intro ha hb)))))
  clear hh hl hx hy ha hb
  go_wp2
  have ev : IntKind.u64.wrap (IntKind.u64.wrap (h + c1) + c2) = h + c1 + c2 ∧ In1 (h + c1 + c2) := by
    have := hp.out; have := hv.out; have := g1.out; have := g2.out; have := Hh.out
    unfold In1 at *
    rw [IntKind.wrap_u64, IntKind.wrap_u64]
    generalize x * y = p at *
    omega
  refine bodyPost_ret (v := .tuple #[.int .u64 s2, .int .u64 (h + c1 + c2)]) (by simp [results, Try.results91, go_sem, ev.1]) rfl ⟨_, _, g2.out.1, ev.2, ?_, rfl, rfl⟩
  have := hv.out; have := g1.out; have := g2.out
  generalize x * y = p at *
  unfold Hid; omega
end Go.Proofs.Ytkidphekfnmhhaa
