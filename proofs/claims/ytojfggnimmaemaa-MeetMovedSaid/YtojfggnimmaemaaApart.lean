/-
  Contract of meet's apart.
-/
import Derived.Test.YtojfggnimmaemaaMeet
import Derived.Lib.MinMax
namespace Go.Proofs.Ytojfggnimmaemaa
open Go.RowKit

set_option maxHeartbeats 1000000 in
set_option maxRecDepth 100000 in
theorem apart_l (a b c d : Pt) (w : World) : Calls Try.prog 96 #[.agg #[.int .i64 a.x, .int .i64 a.y, .int .i64 b.x, .int .i64 b.y], .agg #[.int .i64 c.x, .int .i64 c.y, .int .i64 d.x, .int .i64 d.y]] w (Gives (.bool (apartB a b c d)) w) := by
  obtain ⟨e1, h1⟩ : ∃ e, decide (max c.x d.x < min a.x b.x) = e := ⟨_, rfl⟩
  obtain ⟨e2, h2⟩ : ∃ e, decide (max a.x b.x < min c.x d.x) = e := ⟨_, rfl⟩
  obtain ⟨e3, h3⟩ : ∃ e, decide (max c.y d.y < min a.y b.y) = e := ⟨_, rfl⟩
  obtain ⟨e4, h4⟩ : ∃ e, decide (max a.y b.y < min c.y d.y) = e := ⟨_, rfl⟩
  have HP : Hid (apartB a b c d = (e1 || e2 || e3 || e4)) := by unfold apartB; rw [h1, h2, h3, h4]; exact rfl
  have hcase : e1 = true ∨ (e1 = false ∧ e2 = true) ∨ (e1 = false ∧ e2 = false ∧ e3 = true) ∨ (e1 = false ∧ e2 = false ∧ e3 = false ∧ e4 = true) ∨ (e1 = false ∧ e2 = false ∧ e3 = false ∧ e4 = false) := by
    cases e1 <;> cases e2 <;> cases e3 <;> cases e4 <;> simp
  rcases hcase with rfl | ⟨rfl, rfl⟩ | ⟨rfl, rfl, rfl⟩ | ⟨rfl, rfl, rfl, rfl⟩ | ⟨rfl, rfl, rfl, rfl⟩
  all_goals
    generalize hm1 : min a.x b.x = m1 at *
    generalize hm2 : max a.x b.x = m2 at *
    generalize hm3 : min c.x d.x = m3 at *
    generalize hm4 : max c.x d.x = m4 at *
    generalize hm5 : min a.y b.y = m5 at *
    generalize hm6 : max a.y b.y = m6 at *
    generalize hm7 : min c.y d.y = m7 at *
    generalize hm8 : max c.y d.y = m8 at *
    go_enter Try.func96, Try.ntmps96
    go_upto_region 1 with (fail)
    dsimp only [List.append]
    go_wp2
    go_ret
    exact ⟨by rw [HP.out]; rfl, by repeat (first | (with_reducible exact Below.refl _ _) | (with_reducible refine bl_alloc ?_ _) | (with_reducible refine Below.drew ?_) | (with_reducible refine below_drewN' ?_ _) | ((with_reducible refine bl_set ?_ ?_ _); (rotate_left; (dsimp only; omega))))⟩
end Go.Proofs.Ytojfggnimmaemaa
