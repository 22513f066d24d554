/-
  Contracts of meet's proper, Inside, On.
-/
import Derived.Test.YtojfggnimmaemaaOrient
import Derived.Test.YtojfggnimmaemaaMeetMath
namespace Go.Proofs.Ytojfggnimmaemaa
open Go.RowKit

theorem eqPt' (a b : Pt) (w : World) : (Op.equalIn 10000 23 (.agg #[.int .i64 a.x, .int .i64 a.y]) (.agg #[.int .i64 b.x, .int .i64 b.y])).run Try.prog w = .ok (eqB a b) w := eqPt a b w

set_option maxHeartbeats 1000000 in
set_option maxRecDepth 100000 in
theorem proper_l (a b : Pt) (w : World) : Calls Try.prog 78 #[.agg #[.int .i64 a.x, .int .i64 a.y, .int .i64 b.x, .int .i64 b.y]] w (Gives (.bool (properB a b)) w) := by
  have q := eqPt' a b
  obtain ⟨f, hf⟩ : ∃ f, (fitB a && fitB b) = f := ⟨_, rfl⟩
  have HF := Lib.hid hf
  have HP : Hid (properB a b = (!(eqB a b) && f)) := by unfold properB; rw [hf]; exact rfl
  clear hf
  generalize eqB a b = e at *
  go_enter Try.func78, Try.ntmps78
  go_upto_region 1 with (fail)
  refine wp_abs (fun W => Var W w.heap.size [.int .i64 a.x, .int .i64 a.y, .int .i64 b.x, .int .i64 b.y] ∧ Grew w 1 W) ?_ ?_
  · exact ⟨var4_new _ _ _ _ _ _ _ rfl, by repeat (first | (with_reducible exact Below.refl _ _) | (with_reducible refine bl_alloc ?_ _) | (with_reducible refine Below.drew ?_) | (with_reducible refine below_drewN' ?_ _) | ((with_reducible refine bl_set ?_ ?_ _); (rotate_left; (dsimp only; omega)))), by simp⟩
  rintro W0 ⟨v1, hG⟩
  have HG := Lib.hid hG
  obtain ⟨c0, c1, c2, c3⟩ := v1.four
  clear v1 hG
  cases e
  · go_wp2_with fail
    refine (fits2 _ a b _ f HF.out).mono ?_
    rintro e w1 ⟨rfl, hb1⟩
    go_wp2
    go_ret
    exact ⟨by rw [HP.out]; rfl, (HG.out.below (bl_trans (bl_one _ _) hb1)).hb⟩
  · go_wp2
    go_ret
    exact ⟨by rw [HP.out]; rfl, HG.out.hb⟩

set_option maxHeartbeats 1000000 in
set_option maxRecDepth 100000 in
theorem inside_l (a b p : Pt) (w : World) : Calls Try.prog 51 #[.agg #[.int .i64 a.x, .int .i64 a.y], .agg #[.int .i64 b.x, .int .i64 b.y], .agg #[.int .i64 p.x, .int .i64 p.y]] w (Gives (.bool (insideB a b p)) w) := by
  have C1 := Lib.hid (fun W => orient_l a b p W)
  have C2 := Lib.hid (fun W => inDisc_l a b p W)
  have HP : Hid (insideB a b p = (decide (orientZ a b p = 0) && discB a b p)) := rfl
  generalize orientZ a b p = o at *
  generalize discB a b p = d at *
  have hcase : ((o == 0) = true ∧ decide (o = 0) = true) ∨ ((o == 0) = false ∧ decide (o = 0) = false) := by by_cases h : o = 0 <;> simp [h]
  rcases hcase with ⟨b1, b2⟩ | ⟨b1, b2⟩
  all_goals
    have HB := Lib.hid b2
    clear b2
    go_enter Try.func51, Try.ntmps51
    go_upto_region 1 with (fail)
    refine wp_abs (fun W => Var W w.heap.size [.int .i64 a.x, .int .i64 a.y] ∧ Var W (w.heap.size + 1) [.int .i64 b.x, .int .i64 b.y] ∧ Var W (w.heap.size + 2) [.int .i64 p.x, .int .i64 p.y] ∧ Grew w 3 W) ?_ ?_
    · exact ⟨(var2_new _ _ _ _ _ rfl).below (bl_alloc (bl_one _ _) _), (var2_new _ _ _ _ _ (by simp)).below (bl_one _ _), var2_new _ _ _ _ _ (by simp), by repeat (first | (with_reducible exact Below.refl _ _) | (with_reducible refine bl_alloc ?_ _) | (with_reducible refine Below.drew ?_) | (with_reducible refine below_drewN' ?_ _) | ((with_reducible refine bl_set ?_ ?_ _); (rotate_left; (dsimp only; omega)))), by simp⟩
    rintro W0 ⟨v1, v2, v3, hG⟩
    have HV := Lib.hid (And.intro v1 (And.intro v2 (And.intro v3 hG)))
    obtain ⟨c0, c1⟩ := v1.two
    obtain ⟨c2, c3⟩ := v2.two
    obtain ⟨c4, c5⟩ := v3.two
    clear v1 v2 v3 hG
    go_wp2_with fail
    (with_reducible refine (C1.out _).mono ?_); rintro e w1 ⟨rfl, hb1⟩
    obtain ⟨d0, d1⟩ := (HV.out.1.below hb1).two
    obtain ⟨d2, d3⟩ := (HV.out.2.1.below hb1).two
    obtain ⟨d4, d5⟩ := (HV.out.2.2.1.below hb1).two
    have HG := Lib.hid (HV.out.2.2.2.below hb1)
    clear c0 c1 c2 c3 c4 c5 hb1 HV
    first
      | (go_wp2_with fail
         (with_reducible refine (C2.out _).mono ?_); rintro e w2 ⟨rfl, hb2⟩
         go_wp2
         go_ret
         exact ⟨by rw [HP.out, HB.out]; rfl, (HG.out.below hb2).hb⟩)
      | (go_wp2
         go_ret
         exact ⟨by rw [HP.out, HB.out]; rfl, HG.out.hb⟩)

set_option maxHeartbeats 2000000 in
set_option maxRecDepth 100000 in
theorem on_l (a b p : Pt) (w : World) : Calls Try.prog 49 #[.agg #[.int .i64 a.x, .int .i64 a.y], .agg #[.int .i64 b.x, .int .i64 b.y], .agg #[.int .i64 p.x, .int .i64 p.y]] w (Gives (.bool (onB a b p)) w) := by
  have C1 := Lib.hid (fun W => proper_l a b W)
  have C2 := Lib.hid (fun W => inside_l a b p W)
  have q1 := eqPt' p a
  have q2 := eqPt' p b
  have HP : Hid (onB a b p = (properB a b && ((eqB p a || eqB p b) || insideB a b p))) := rfl
  generalize properB a b = pr at *
  generalize insideB a b p = ins at *
  generalize eqB p a = e1 at *
  generalize eqB p b = e2 at *
  go_enter Try.func49, Try.ntmps49
  go_upto_region 1 with (fail)
  refine wp_abs (fun W => Var W w.heap.size [.int .i64 a.x, .int .i64 a.y] ∧ Var W (w.heap.size + 1) [.int .i64 b.x, .int .i64 b.y] ∧ Var W (w.heap.size + 2) [.int .i64 p.x, .int .i64 p.y] ∧ Grew w 3 W) ?_ ?_
  · exact ⟨(var2_new _ _ _ _ _ rfl).below (bl_alloc (bl_one _ _) _), (var2_new _ _ _ _ _ (by simp)).below (bl_one _ _), var2_new _ _ _ _ _ (by simp), by repeat (first | (with_reducible exact Below.refl _ _) | (with_reducible refine bl_alloc ?_ _) | (with_reducible refine Below.drew ?_) | (with_reducible refine below_drewN' ?_ _) | ((with_reducible refine bl_set ?_ ?_ _); (rotate_left; (dsimp only; omega)))), by simp⟩
  rintro W0 ⟨v1, v2, v3, hG⟩
  have HV := Lib.hid (And.intro v1 (And.intro v2 (And.intro v3 hG)))
  obtain ⟨c0, c1⟩ := v1.two
  obtain ⟨c2, c3⟩ := v2.two
  obtain ⟨c4, c5⟩ := v3.two
  clear v1 v2 v3 hG
  go_cut [7] (fun bv W => bv = .bool (e1 || e2) ∧ W = W0)
  case first =>
    cases e1 <;> cases e2
    all_goals
      go_wp2_with fail
      go_meet
      case rel => exact ⟨rfl, rfl⟩
  case rest =>
  obtain ⟨rfl, rfl⟩ := hcut
  clear q1 q2
  have HO : Hid (onB a b p = (pr && ((e1 || e2) || ins))) := HP.out
  generalize (e1 || e2) = e at *
  go_wp2_with fail
  (with_reducible refine (C1.out _).mono ?_); rintro e' w1 ⟨rfl, hb1⟩
  obtain ⟨d0, d1⟩ := (HV.out.1.below hb1).two
  obtain ⟨d2, d3⟩ := (HV.out.2.1.below hb1).two
  obtain ⟨d4, d5⟩ := (HV.out.2.2.1.below hb1).two
  have HG := Lib.hid (HV.out.2.2.2.below hb1)
  clear c0 c1 c2 c3 c4 c5 hb1 HV
  cases pr <;> cases e
  all_goals
    first
      | (go_wp2_with fail
         (with_reducible refine (C2.out _).mono ?_); rintro e w2 ⟨rfl, hb2⟩
         go_wp2
         go_ret
         exact ⟨by rw [HO.out]; rfl, (HG.out.below hb2).hb⟩)
      | (go_wp2
         go_ret
         exact ⟨by rw [HO.out]; rfl, HG.out.hb⟩)
end Go.Proofs.Ytojfggnimmaemaa
