/-
  Contracts of meet's holds, joined, apart, along.
-/
import Derived.Test.YtojfggnimmaemaaMeet
namespace Go.Proofs.Ytojfggnimmaemaa
open Go.RowKit

set_option maxHeartbeats 2000000 in
set_option maxRecDepth 100000 in
theorem holds_l (a b c d : Pt) (w : World) : Calls Try.prog 111 #[.agg #[.int .i64 a.x, .int .i64 a.y, .int .i64 b.x, .int .i64 b.y], .agg #[.int .i64 c.x, .int .i64 c.y, .int .i64 d.x, .int .i64 d.y]] w (Gives (.bool (holdsB a b c d)) w) := by
  have C1 := Lib.hid (fun W => inside_l a b c W)
  have C2 := Lib.hid (fun W => inside_l a b d W)
  have HP : Hid (holdsB a b c d = (insideB a b c || insideB a b d)) := rfl
  generalize insideB a b c = i1 at *
  generalize insideB a b d = i2 at *
  go_enter Try.func111, Try.ntmps111
  go_upto_region 1 with (fail)
  refine wp_abs (fun W => Var W w.heap.size [.int .i64 a.x, .int .i64 a.y, .int .i64 b.x, .int .i64 b.y] ∧ Var W (w.heap.size + 1) [.int .i64 c.x, .int .i64 c.y, .int .i64 d.x, .int .i64 d.y] ∧ Grew w 2 W) ?_ ?_
  · exact ⟨(var4_new _ _ _ _ _ _ _ rfl).below (bl_one _ _), var4_new _ _ _ _ _ _ _ (by simp), by repeat (first | (with_reducible exact Below.refl _ _) | (with_reducible refine bl_alloc ?_ _) | (with_reducible refine Below.drew ?_) | (with_reducible refine below_drewN' ?_ _) | ((with_reducible refine bl_set ?_ ?_ _); (rotate_left; (dsimp only; omega)))), by simp⟩
  rintro W0 ⟨v1, v2, hG⟩
  have HV := Lib.hid (And.intro v1 (And.intro v2 hG))
  obtain ⟨c0, c1, c2, c3⟩ := v1.four
  obtain ⟨c4, c5, c6, c7⟩ := v2.four
  clear v1 v2 hG
  go_wp2_with fail
  (with_reducible refine (C1.out _).mono ?_); rintro e' w1 ⟨rfl, hb1⟩
  obtain ⟨d0, d1, d2, d3⟩ := (HV.out.1.below hb1).four
  obtain ⟨d4, d5, d6, d7⟩ := (HV.out.2.1.below hb1).four
  have HG := Lib.hid (HV.out.2.2.below hb1)
  clear c0 c1 c2 c3 c4 c5 c6 c7 hb1 HV
  cases i1
  · go_wp2_with fail
    (with_reducible refine (C2.out _).mono ?_); rintro e w2 ⟨rfl, hb2⟩
    go_wp2
    go_ret
    exact ⟨by rw [HP.out]; rfl, (HG.out.below hb2).hb⟩
  · go_wp2
    go_ret
    exact ⟨by rw [HP.out]; rfl, HG.out.hb⟩

set_option maxHeartbeats 4000000 in
set_option maxRecDepth 100000 in
theorem joined_l (a b c d : Pt) (w : World) : Calls Try.prog 98 #[.agg #[.int .i64 a.x, .int .i64 a.y, .int .i64 b.x, .int .i64 b.y], .agg #[.int .i64 c.x, .int .i64 c.y, .int .i64 d.x, .int .i64 d.y]] w (Gives (.bool (joinedB a b c d)) w) := by
  have q1 := eqPt' a c
  have q2 := eqPt' a d
  have q3 := eqPt' b c
  have q4 := eqPt' b d
  have HP : Hid (joinedB a b c d = (eqB a c || eqB a d || eqB b c || eqB b d)) := rfl
  generalize eqB a c = e1 at *
  generalize eqB a d = e2 at *
  generalize eqB b c = e3 at *
  generalize eqB b d = e4 at *
  go_enter Try.func98, Try.ntmps98
  go_upto_region 1 with (fail)
  refine wp_abs (fun W => Var W w.heap.size [.int .i64 a.x, .int .i64 a.y, .int .i64 b.x, .int .i64 b.y] ∧ Var W (w.heap.size + 1) [.int .i64 c.x, .int .i64 c.y, .int .i64 d.x, .int .i64 d.y] ∧ Grew w 2 W) ?_ ?_
  · exact ⟨(var4_new _ _ _ _ _ _ _ rfl).below (bl_one _ _), var4_new _ _ _ _ _ _ _ (by simp), by repeat (first | (with_reducible exact Below.refl _ _) | (with_reducible refine bl_alloc ?_ _) | (with_reducible refine Below.drew ?_) | (with_reducible refine below_drewN' ?_ _) | ((with_reducible refine bl_set ?_ ?_ _); (rotate_left; (dsimp only; omega)))), by simp⟩
  rintro W0 ⟨v1, v2, hG⟩
  have HV := Lib.hid (And.intro v1 (And.intro v2 hG))
  obtain ⟨c0, c1, c2, c3⟩ := v1.four
  obtain ⟨c4, c5, c6, c7⟩ := v2.four
  clear v1 v2 hG
  have hcase : e1 = true ∨ (e1 = false ∧ e2 = true) ∨ (e1 = false ∧ e2 = false ∧ e3 = true) ∨ (e1 = false ∧ e2 = false ∧ e3 = false ∧ e4 = true) ∨ (e1 = false ∧ e2 = false ∧ e3 = false ∧ e4 = false) := by
    cases e1 <;> cases e2 <;> cases e3 <;> cases e4 <;> simp
  rcases hcase with rfl | ⟨rfl, rfl⟩ | ⟨rfl, rfl, rfl⟩ | ⟨rfl, rfl, rfl, rfl⟩ | ⟨rfl, rfl, rfl, rfl⟩
  all_goals
    go_wp2
    go_ret
    exact ⟨by rw [HP.out]; rfl, HV.out.2.2.hb⟩
end Go.Proofs.Ytojfggnimmaemaa
