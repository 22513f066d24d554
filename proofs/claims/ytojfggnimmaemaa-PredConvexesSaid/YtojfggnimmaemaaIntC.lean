/-
  Contract of wide.Int.
-/
import Derived.Test.YtojfggnimmaemaaTwo2
namespace Go.Proofs.Ytojfggnimmaemaa
open Go.RowKit

def IntIs (v er z : Int) : Prop := (er = 0 ∧ v = z ∧ -9223372036854775808 ≤ z ∧ z ≤ 9223372036854775807) ∨ (er = 10 ∧ v = 0 ∧ (z < -9223372036854775808 ∨ 9223372036854775807 < z))
def IntCP (z : Int) (w : World) (e : Ending) (w' : World) : Prop := ∃ v er, e = .returned (.tuple #[.int .i64 v, .int .i64 er]) ∧ Hid (IntIs v er z) ∧ Below w.heap.size w w'
theorem negW (a : Int) (h0 : 0 ≤ a) (h1 : a ≤ 9223372036854775808) : ∃ x, IntKind.u64.wrap (-a) = x ∧ IntKind.i64.wrap x = -a ∧ wrap64 x = -a := by
  refine ⟨_, rfl, ?_, ?_⟩
  · rw [IntKind.wrap_u64, IntKind.wrap_i64]; omega
  · rw [IntKind.wrap_u64]; unfold wrap64; omega

set_option maxHeartbeats 2000000 in
set_option maxRecDepth 100000 in
theorem int_c (m : Bool) (a b c d : Int) (hA : In4 a b c d) (w : World) : Calls Try.prog 93 #[(.agg #[.bool m, .int .u64 a, .int .u64 b, .int .u64 c, .int .u64 d])] w (IntCP (WV m a b c d) w) := by
  obtain ⟨zb, hz, he⟩ : ∃ zb : Bool, Hid (zb = true ↔ b = 0 ∧ c = 0 ∧ d = 0) ∧ ∀ w : World, (Op.equalIn 10000 71 (.agg #[.int .u64 a, .int .u64 b, .int .u64 c, .int .u64 d]) (.agg #[.int .u64 a, .int .u64 0, .int .u64 0, .int .u64 0])).run Try.prog w = .ok zb w :=
    ⟨decide (a = a ∧ b = 0 ∧ c = 0 ∧ d = 0), by unfold Hid; simp, fun w => eqL _ _ _ _ _ _ _ _ w⟩
  have HA := Lib.hid hA
  have ha : 0 ≤ a ∧ a < 18446744073709551616 := hA.1
  have hbig : Hid (¬ (b = 0 ∧ c = 0 ∧ d = 0) → 18446744073709551616 ≤ V4 a b c d) := by
    have h1 := hA.2.1; have h2 := hA.2.2.1; have h3 := hA.2.2.2
    unfold In1 at h1 h2 h3
    unfold Hid V4
    omega
  have hsm : Hid (b = 0 ∧ c = 0 ∧ d = 0 → V4 a b c d = a) := by unfold Hid V4; omega
  have hge : Hid (a ≤ V4 a b c d) := by
    have h1 := hA.2.1; have h2 := hA.2.2.1; have h3 := hA.2.2.2
    unfold In1 at h1 h2 h3
    unfold Hid V4
    omega
  clear hA
  cases m
  · rcases Int.lt_or_le 9223372036854775807 a with hl | hl
    · go_enter Try.func93, Try.ntmps93
      go_wp2
      go_ret2
      exact ⟨0, 10, rfl, .inr ⟨rfl, rfl, by have := hge.out; simp [WV]; omega⟩, by repeat (first | (with_reducible exact Below.refl _ _) | (with_reducible refine bl_alloc ?_ _) | (with_reducible refine Below.drew ?_) | (with_reducible refine below_drewN' ?_ _) | ((with_reducible refine bl_set ?_ ?_ _); (rotate_left; (dsimp only; omega))))⟩
    · have hw : IntKind.i64.wrap a = a := IntWalk.i64_in _ (by omega)
      have hw' : wrap64 a = a := by unfold wrap64; omega
      cases zb
      · go_enter Try.func93, Try.ntmps93
        go_wp2
        go_ret2
        refine ⟨0, 10, rfl, .inr ⟨rfl, rfl, ?_⟩, by repeat (first | (with_reducible exact Below.refl _ _) | (with_reducible refine bl_alloc ?_ _) | (with_reducible refine Below.drew ?_) | (with_reducible refine below_drewN' ?_ _) | ((with_reducible refine bl_set ?_ ?_ _); (rotate_left; (dsimp only; omega))))⟩
        have := hbig.out (fun h => by have := hz.out.2 h; cases this)
        simp [WV]; omega
      · go_enter Try.func93, Try.ntmps93
        go_wp2
        go_ret2
        refine ⟨a, 0, by first | rfl | rw [hw], .inl ⟨rfl, ?_, ?_, ?_⟩, by repeat (first | (with_reducible exact Below.refl _ _) | (with_reducible refine bl_alloc ?_ _) | (with_reducible refine Below.drew ?_) | (with_reducible refine below_drewN' ?_ _) | ((with_reducible refine bl_set ?_ ?_ _); (rotate_left; (dsimp only; omega))))⟩
        all_goals
          have := hsm.out (hz.out.1 (by first | rfl | trivial))
          simp [WV]; omega
  · rcases Int.lt_or_le 9223372036854775808 a with hl | hl
    · go_enter Try.func93, Try.ntmps93
      go_wp2
      go_ret2
      exact ⟨0, 10, rfl, .inr ⟨rfl, rfl, by have := hge.out; simp [WV]; omega⟩, by repeat (first | (with_reducible exact Below.refl _ _) | (with_reducible refine bl_alloc ?_ _) | (with_reducible refine Below.drew ?_) | (with_reducible refine below_drewN' ?_ _) | ((with_reducible refine bl_set ?_ ?_ _); (rotate_left; (dsimp only; omega))))⟩
    · obtain ⟨x, x0, x1, x2⟩ := negW a ha.1 hl
      cases zb
      · go_enter Try.func93, Try.ntmps93
        go_wp2
        go_ret2
        refine ⟨0, 10, rfl, .inr ⟨rfl, rfl, ?_⟩, by repeat (first | (with_reducible exact Below.refl _ _) | (with_reducible refine bl_alloc ?_ _) | (with_reducible refine Below.drew ?_) | (with_reducible refine below_drewN' ?_ _) | ((with_reducible refine bl_set ?_ ?_ _); (rotate_left; (dsimp only; omega))))⟩
        have := hbig.out (fun h => by have := hz.out.2 h; cases this)
        simp [WV]; omega
      · go_enter Try.func93, Try.ntmps93
        go_wp2
        go_ret2
        refine ⟨-a, 0, by first | rfl | simp, .inl ⟨rfl, ?_, ?_, ?_⟩, by repeat (first | (with_reducible exact Below.refl _ _) | (with_reducible refine bl_alloc ?_ _) | (with_reducible refine Below.drew ?_) | (with_reducible refine below_drewN' ?_ _) | ((with_reducible refine bl_set ?_ ?_ _); (rotate_left; (dsimp only; omega))))⟩
        all_goals
          have := hsm.out (hz.out.1 (by first | rfl | trivial))
          simp [WV]; omega
end Go.Proofs.Ytojfggnimmaemaa
