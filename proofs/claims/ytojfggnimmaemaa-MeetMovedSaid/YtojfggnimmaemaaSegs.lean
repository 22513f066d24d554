/-
  Contract of meet's Segs.
-/
import Derived.Test.YtojfggnimmaemaaCommon
namespace Go.Proofs.Ytojfggnimmaemaa
open Go.RowKit

set_option maxHeartbeats 4000000 in
set_option maxRecDepth 100000 in
theorem segs_l (a b c d : Pt) (w : World) : Calls Try.prog 46 #[.agg #[.int .i64 a.x, .int .i64 a.y], .agg #[.int .i64 b.x, .int .i64 b.y], .agg #[.int .i64 c.x, .int .i64 c.y], .agg #[.int .i64 d.x, .int .i64 d.y]] w (Gives (.tuple #[.int .i64 (segsN a b c d), .int .i64 (segsE a b c d)]) w) := by
  have C1 := Lib.hid (fun W => proper_l a b W)
  have C2 := Lib.hid (fun W => proper_l c d W)
  have C3 := Lib.hid (fun W => common_l a b c d W)
  have HP : Hid (segsN a b c d = (if properB a b && properB c d then commonZ a b c d else 0) ∧ segsE a b c d = if properB a b && properB c d then 0 else 2) := ⟨rfl, rfl⟩
  generalize properB a b = p1 at *
  generalize properB c d = p2 at *
  generalize commonZ a b c d = z at *
  go_enter Try.func46, Try.ntmps46
  go_upto_region 1 with (fail)
  refine wp_abs (fun W => Var W w.heap.size [.int .i64 a.x, .int .i64 a.y] ∧ Var W (w.heap.size + 1) [.int .i64 b.x, .int .i64 b.y] ∧ Var W (w.heap.size + 1 + 1) [.int .i64 c.x, .int .i64 c.y] ∧ Var W (w.heap.size + 1 + 1 + 1) [.int .i64 d.x, .int .i64 d.y] ∧ Grew w 4 W) ?_ ?_
  · exact ⟨(var2_new _ _ _ _ _ rfl).below (bl_alloc (bl_alloc (bl_one _ _) _) _), (var2_new _ _ _ _ _ (by simp)).below (bl_alloc (bl_one _ _) _), (var2_new _ _ _ _ _ (by simp)).below (bl_one _ _), var2_new _ _ _ _ _ (by simp), by repeat (first | (with_reducible exact Below.refl _ _) | (with_reducible refine bl_alloc ?_ _) | (with_reducible refine Below.drew ?_) | (with_reducible refine below_drewN' ?_ _) | ((with_reducible refine bl_set ?_ ?_ _); (rotate_left; (dsimp only; omega)))), by simp⟩
  rintro W0 ⟨v1, v2, v3, v4, hG⟩
  have HG := Lib.hid hG
  obtain ⟨c0, c1⟩ := v1.two
  obtain ⟨c2, c3⟩ := v2.two
  obtain ⟨c4, c5⟩ := v3.two
  obtain ⟨c6, c7⟩ := v4.two
  have l1 := v1.lt
  have l2 := v2.lt
  have l3 := v3.lt
  have l4 := v4.lt
  clear v1 v2 v3 v4 hG
  go_cut [10, 11] (fun x y W => ∃ g1 g2, x = .pointer (some ⟨g1, 0, none⟩) ∧ y = .pointer (some ⟨g2, 0, none⟩) ∧ Var W g1 [.int .i64 a.x, .int .i64 a.y, .int .i64 b.x, .int .i64 b.y] ∧ Var W g2 [.int .i64 c.x, .int .i64 c.y, .int .i64 d.x, .int .i64 d.y] ∧ Grew w 4 W)
  case first =>
    go_region
    all_goals
      go_wp2_with fail
      go_meet
      case rel => first
        | exact ⟨_, _, rfl, rfl, ((var4_new _ _ _ _ _ _ _ rfl).below (bl_one _ _)).below (bel_drew _), (var4_new _ _ _ _ _ _ _ (by simp)).below (bel_drew _), ((HG.out.new _).new _).below (bel_drew _)⟩
        | exact ⟨_, _, rfl, rfl, (var4_new _ _ _ _ _ _ _ (by simp)).below (bel_drew _), ((var4_new _ _ _ _ _ _ _ rfl).below (bl_one _ _)).below (bel_drew _), ((HG.out.new _).new _).below (bel_drew _)⟩
  case rest =>
  obtain ⟨g1, g2, rfl, rfl, v1, v2, hG⟩ := hcut
  clear c0 c1 c2 c3 c4 c5 c6 c7 l1 l2 l3 l4 HG
  have HV := Lib.hid (And.intro v1 (And.intro v2 hG))
  obtain ⟨c0, c1, c2, c3⟩ := v1.four
  obtain ⟨c4, c5, c6, c7⟩ := v2.four
  clear v1 v2 hG
  go_wp2_with fail
  (with_reducible refine (C1.out _).mono ?_); rintro e' w1 ⟨rfl, hb1⟩
  replace HV := Lib.hid (And.intro (HV.out.1.below hb1) (And.intro (HV.out.2.1.below hb1) (HV.out.2.2.below hb1)))
  clear c0 c1 c2 c3 c4 c5 c6 c7 hb1
  obtain ⟨c0, c1, c2, c3⟩ := HV.out.1.four
  obtain ⟨c4, c5, c6, c7⟩ := HV.out.2.1.four
  cases p1
  case false =>
    go_wp2
    go_ret2
    exact ⟨by rw [HP.out.1, HP.out.2]; rfl, HV.out.2.2.hb⟩
  case true =>
  go_wp2_with fail
  (with_reducible refine (C2.out _).mono ?_); rintro e' w2 ⟨rfl, hb1⟩
  replace HV := Lib.hid (And.intro (HV.out.1.below hb1) (And.intro (HV.out.2.1.below hb1) (HV.out.2.2.below hb1)))
  clear c0 c1 c2 c3 c4 c5 c6 c7 hb1
  obtain ⟨c0, c1, c2, c3⟩ := HV.out.1.four
  obtain ⟨c4, c5, c6, c7⟩ := HV.out.2.1.four
  cases p2
  case false =>
    go_wp2
    go_ret2
    exact ⟨by rw [HP.out.1, HP.out.2]; rfl, HV.out.2.2.hb⟩
  case true =>
    go_wp2_with fail
    (with_reducible refine (C3.out _).mono ?_); rintro e' w3 ⟨rfl, hb1⟩
    replace HV := Lib.hid (HV.out.2.2.below hb1)
    clear c0 c1 c2 c3 c4 c5 c6 c7 hb1
    go_wp2
    go_ret2
    exact ⟨by rw [HP.out.1, HP.out.2]; rfl, HV.out.hb⟩
end Go.Proofs.Ytojfggnimmaemaa
