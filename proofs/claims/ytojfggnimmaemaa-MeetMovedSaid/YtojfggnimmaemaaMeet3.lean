/-
  '==' of two segments; contract of meet's along.
-/
import Derived.Test.YtojfggnimmaemaaMeet2
namespace Go.Proofs.Ytojfggnimmaemaa
open Go.RowKit

set_option maxRecDepth 100000 in
theorem eqSeg (a b c d : Pt) (w : World) : (Op.equalIn 10000 61 (.agg #[.int .i64 a.x, .int .i64 a.y, .int .i64 b.x, .int .i64 b.y]) (.agg #[.int .i64 c.x, .int .i64 c.y, .int .i64 d.x, .int .i64 d.y])).run Try.prog w = .ok (eqB a c && eqB b d) w := by
  have u3 := Try.underlying23
  have a3 := Try.isAgg23
  have z3 := Try.sizeOf23
  have u4 := Try.underlying3
  rw [show (10000 : Nat) = 9999 + 1 from rfl, Op.equalIn]
  simp only [Sem.run_bind, run_underlying Try.underlying61, Result.andThen_ok]
  simp only [Std.Legacy.Range.forIn_eq_forIn_range', Std.Legacy.Range.size, Nat.sub_zero, Nat.add_sub_cancel, Nat.div_one, List.range'_succ, List.range'_zero, List.forIn_cons, List.forIn_nil]
  go_simp
  have e1 : (a = c) ↔ (a.x = c.x ∧ a.y = c.y) := ⟨fun h => by rw [h]; exact ⟨rfl, rfl⟩, fun h => Pt.ext' h.1 h.2⟩
  have e2 : (b = d) ↔ (b.x = d.x ∧ b.y = d.y) := ⟨fun h => by rw [h]; exact ⟨rfl, rfl⟩, fun h => Pt.ext' h.1 h.2⟩
  by_cases h1 : a.x = c.x <;> by_cases h2 : a.y = c.y <;> by_cases h3 : b.x = d.x <;> by_cases h4 : b.y = d.y <;> simp [eqB, e1, e2, h1, h2, h3, h4]

set_option maxHeartbeats 4000000 in
set_option maxRecDepth 100000 in
theorem along_l (a b c d : Pt) (w : World) : Calls Try.prog 97 #[.agg #[.int .i64 a.x, .int .i64 a.y, .int .i64 b.x, .int .i64 b.y], .agg #[.int .i64 c.x, .int .i64 c.y, .int .i64 d.x, .int .i64 d.y]] w (Gives (.int .i64 (alongZ a b c d)) w) := by
  have q1 := eqSeg a b c d
  have q2 := eqSeg a b d c
  have C1 := Lib.hid (fun W => holds_l a b c d W)
  have C2 := Lib.hid (fun W => holds_l c d a b W)
  have HP : Hid (alongZ a b c d = if (eqB a c && eqB b d) || (eqB a d && eqB b c) then 4 else if holdsB a b c d || holdsB c d a b then 4 else 1) := rfl
  generalize (eqB a c && eqB b d) = s1 at *
  generalize (eqB a d && eqB b c) = s2 at *
  generalize holdsB a b c d = k1 at *
  generalize holdsB c d a b = k2 at *
  go_enter Try.func97, Try.ntmps97
  go_upto_region 2 with (fail)
  refine wp_abs (fun W => Var W w.heap.size [.int .i64 a.x, .int .i64 a.y, .int .i64 b.x, .int .i64 b.y] ∧ Var W (w.heap.size + 1) [.int .i64 c.x, .int .i64 c.y, .int .i64 d.x, .int .i64 d.y] ∧ Grew w 2 W) ?_ ?_
  · exact ⟨(var4_new _ _ _ _ _ _ _ rfl).below (bl_one _ _), var4_new _ _ _ _ _ _ _ (by simp), by repeat (first | (with_reducible exact Below.refl _ _) | (with_reducible refine bl_alloc ?_ _) | (with_reducible refine Below.drew ?_) | (with_reducible refine below_drewN' ?_ _) | ((with_reducible refine bl_set ?_ ?_ _); (rotate_left; (dsimp only; omega)))), by simp⟩
  rintro W0 ⟨v1, v2, hG⟩
  have HV := Lib.hid (And.intro v1 (And.intro v2 hG))
  obtain ⟨c0, c1, c2, c3⟩ := v1.four
  obtain ⟨c4, c5, c6, c7⟩ := v2.four
  clear v1 v2 hG
  have hcase : s1 = true ∨ (s1 = false ∧ s2 = true) ∨ (s1 = false ∧ s2 = false) := by cases s1 <;> cases s2 <;> simp
  rcases hcase with rfl | ⟨rfl, rfl⟩ | ⟨rfl, rfl⟩
  · go_wp2
    go_ret
    exact ⟨by rw [HP.out]; rfl, HV.out.2.2.hb⟩
  · go_wp2
    go_ret
    exact ⟨by rw [HP.out]; rfl, HV.out.2.2.hb⟩
  · go_wp2_with fail
    (with_reducible refine (C1.out _).mono ?_); rintro e' w1 ⟨rfl, hb1⟩
    obtain ⟨d0, d1, d2, d3⟩ := (HV.out.1.below hb1).four
    obtain ⟨d4, d5, d6, d7⟩ := (HV.out.2.1.below hb1).four
    have HG := Lib.hid (HV.out.2.2.below hb1)
    clear c0 c1 c2 c3 c4 c5 c6 c7 hb1 HV q1 q2
    cases k1
    · go_wp2_with fail
      (with_reducible refine (C2.out _).mono ?_); rintro e w2 ⟨rfl, hb2⟩
      have HG2 := Lib.hid (HG.out.below hb2)
      clear d0 d1 d2 d3 d4 d5 d6 d7 hb2 HG
      cases k2
      all_goals
        go_wp2
        go_ret
        exact ⟨by rw [HP.out]; rfl, HG2.out.hb⟩
    · go_wp2
      go_ret
      exact ⟨by rw [HP.out]; rfl, HG.out.hb⟩
end Go.Proofs.Ytojfggnimmaemaa
