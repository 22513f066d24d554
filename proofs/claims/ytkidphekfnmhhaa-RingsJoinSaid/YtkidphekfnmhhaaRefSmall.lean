/-
  Contracts of the document's side: digit, Neg, Sign.
-/
import Derived.Test.YtkidphekfnmhhaaRefBack
namespace Go.Proofs.Ytkidphekfnmhhaa
open Go.RowKit

set_option maxHeartbeats 1000000 in
set_option maxRecDepth 100000 in
theorem digit_in (g c n i : Nat) (x : Int) (hi : i < n) (_hn : n ≤ c) (_hc : c ≤ 9223372036854775807) (w : World) (hcell : w.cell? ⟨g, i, none⟩ = some (.int .i64 x)) :
    Calls Try.prog 70 #[.slice (some ⟨g, 0, none⟩) n c, .int .i64 i] w fun e w' => e = .returned (.int .i64 x) ∧ Below w.heap.size w w' := by
  have h1 : decide ((i : Int) < (n : Int)) = true := by simp; omega
  go_enter Try.func70, Try.ntmps70
  go_wp2
  go_ret
  exact ⟨rfl, by repeat (first | (with_reducible exact Below.refl _ _) | (with_reducible refine bl_alloc ?_ _) | (with_reducible refine Below.drew ?_) | (with_reducible refine below_drewN' ?_ _) | ((with_reducible refine bl_set ?_ ?_ _); (rotate_left; (dsimp only; omega))))⟩

set_option maxHeartbeats 1000000 in
set_option maxRecDepth 100000 in
theorem digit_out (ad : Option Addr) (c n i : Nat) (hi : n ≤ i) (w : World) :
    Calls Try.prog 70 #[.slice ad n c, .int .i64 i] w fun e w' => e = .returned (.int .i64 0) ∧ Below w.heap.size w w' := by
  have h1 : decide ((i : Int) < (n : Int)) = false := by simp; omega
  go_enter Try.func70, Try.ntmps70
  go_wp2
  go_ret
  exact ⟨rfl, by repeat (first | (with_reducible exact Below.refl _ _) | (with_reducible refine bl_alloc ?_ _) | (with_reducible refine Below.drew ?_) | (with_reducible refine below_drewN' ?_ _) | ((with_reducible refine bl_set ?_ ?_ _); (rotate_left; (dsimp only; omega))))⟩

set_option maxHeartbeats 1000000 in
set_option maxRecDepth 100000 in
theorem refSign_c (m : Bool) (ad : Option Addr) (c n : Nat) (w : World) :
    Calls Try.prog 58 #[.agg #[.bool m, .slice ad n c]] w fun e w' => e = .returned (.int .i64 (if n = 0 then 0 else if m then -1 else 1)) ∧ Below w.heap.size w w' := by
  by_cases h0 : n = 0
  · subst h0
    go_enter Try.func58, Try.ntmps58
    go_wp2
    go_ret
    exact ⟨by simp, by repeat (first | (with_reducible exact Below.refl _ _) | (with_reducible refine bl_alloc ?_ _) | (with_reducible refine Below.drew ?_) | (with_reducible refine below_drewN' ?_ _) | ((with_reducible refine bl_set ?_ ?_ _); (rotate_left; (dsimp only; omega))))⟩
  · have h1 : ((n : Int) == 0) = false := by simp; omega
    cases m
    all_goals
      go_enter Try.func58, Try.ntmps58
      go_wp2
      go_ret
      exact ⟨by first | rfl | (simp; done) | (rw [if_neg h0]; rfl), by repeat (first | (with_reducible exact Below.refl _ _) | (with_reducible refine bl_alloc ?_ _) | (with_reducible refine Below.drew ?_) | (with_reducible refine below_drewN' ?_ _) | ((with_reducible refine bl_set ?_ ?_ _); (rotate_left; (dsimp only; omega))))⟩

set_option maxHeartbeats 1000000 in
set_option maxRecDepth 100000 in
theorem refNeg_c (m : Bool) (ad : Option Addr) (c n : Nat) (w : World) :
    Calls Try.prog 68 #[.agg #[.bool m, .slice ad n c]] w fun e w' => e = .returned (.agg #[.bool (!m && decide (0 < n)), .slice ad n c]) ∧ Below w.heap.size w w' := by
  by_cases h0 : n = 0
  · subst h0
    cases m
    all_goals
      go_enter Try.func68, Try.ntmps68
      go_wp2
      refine bodyPost_ret (v := .agg #[.bool false, .slice ad 0 c]) (by simp [results, Try.results68, go_sem]) rfl ⟨by simp, by repeat (first | (with_reducible exact Below.refl _ _) | (with_reducible refine bl_alloc ?_ _) | (with_reducible refine Below.drew ?_) | (with_reducible refine below_drewN' ?_ _) | ((with_reducible refine bl_set ?_ ?_ _); (rotate_left; (dsimp only; omega))))⟩
  · have h1 : decide ((0 : Int) < (n : Int)) = true := by simp; omega
    have h2 : decide (0 < n) = true := by simp; omega
    cases m
    · go_enter Try.func68, Try.ntmps68
      go_wp2
      refine bodyPost_ret (v := .agg #[.bool true, .slice ad n c]) (by simp [results, Try.results68, go_sem]) rfl ⟨by simp [h2], by repeat (first | (with_reducible exact Below.refl _ _) | (with_reducible refine bl_alloc ?_ _) | (with_reducible refine Below.drew ?_) | (with_reducible refine below_drewN' ?_ _) | ((with_reducible refine bl_set ?_ ?_ _); (rotate_left; (dsimp only; omega))))⟩
    · go_enter Try.func68, Try.ntmps68
      go_wp2
      refine bodyPost_ret (v := .agg #[.bool false, .slice ad n c]) (by simp [results, Try.results68, go_sem]) rfl ⟨by simp, by repeat (first | (with_reducible exact Below.refl _ _) | (with_reducible refine bl_alloc ?_ _) | (with_reducible refine Below.drew ?_) | (with_reducible refine below_drewN' ?_ _) | ((with_reducible refine bl_set ?_ ?_ _); (rotate_left; (dsimp only; omega))))⟩
end Go.Proofs.Ytkidphekfnmhhaa
