/-
  Contracts of meet's proper, Inside, On.
-/
import Derived.Test.YtpjaefcmaiimlaaGreatGeoAll
import Derived.Test.YtpjaefcmaiimlaaGreatGeoMath
import Derived.Lib.MinMax
set_option linter.unusedVariables false
set_option linter.unusedSimpArgs false
set_option linter.deprecated false
namespace Go.Proofs.YtpjaefcmaiimlaaGreat
open Go.RowKit

theorem eqPt' (a b : Pt) (w : World) : (Op.equalIn 10000 64 (.agg #[.int .i64 a.x, .int .i64 a.y]) (.agg #[.int .i64 b.x, .int .i64 b.y])).run Tryz.prog w = .ok (eqB a b) w := eqPt a b w

set_option maxHeartbeats 1000000 in
set_option maxRecDepth 100000 in
theorem proper_l (a b : Pt) (w : World) : Calls Tryz.prog 77 #[.agg #[.int .i64 a.x, .int .i64 a.y, .int .i64 b.x, .int .i64 b.y]] w (Gives (.bool (properB a b)) w) := by
  have q := eqPt' a b
  obtain ⟨f, hf⟩ : ∃ f, (fitB a && fitB b) = f := ⟨_, rfl⟩
  have HF := hi hf
  have HP : Hid (properB a b = (!(eqB a b) && f)) := by unfold properB; rw [hf]; exact rfl
  clear hf
  generalize eqB a b = e at *
  go_enter Tryz.func77, Tryz.ntmps77
  go_upto_region 1 with (fail)
  refine wp_abs (fun W => Var W w.heap.size [.int .i64 a.x, .int .i64 a.y, .int .i64 b.x, .int .i64 b.y] ∧ Grew w 1 W) ?_ ?_
  · exact ⟨var4_new _ _ _ _ _ _ _ rfl, by repeat (first | (with_reducible exact Below.refl _ _) | (with_reducible refine bl_alloc ?_ _) | (with_reducible refine Below.drew ?_) | (with_reducible refine below_drewN' ?_ _) | ((with_reducible refine bl_set ?_ ?_ _); (rotate_left; (dsimp only; omega)))), by simp⟩
  rintro W0 ⟨v1, hG⟩
  have HG := hi hG
  obtain ⟨c0, c1, c2, c3⟩ := v1.four
  clear v1 hG
  cases e
  · go_wp2_with fail
    refine (fits2 _ a b _ f HF.out).mono ?_
    rintro e w1 ⟨rfl, hb1⟩
    go_wp2
    go_ret
    exact ⟨by rw [HP.out]; rfl, (HG.out.below (bl_trans (bl_one _ _) hb1)).hb⟩
  · go_wp2
    go_ret
    exact ⟨by rw [HP.out]; rfl, HG.out.hb⟩

set_option maxHeartbeats 1000000 in
set_option maxRecDepth 100000 in
theorem inside_l (a b p : Pt) (w : World) : Calls Tryz.prog 50 #[.agg #[.int .i64 a.x, .int .i64 a.y], .agg #[.int .i64 b.x, .int .i64 b.y], .agg #[.int .i64 p.x, .int .i64 p.y]] w (Gives (.bool (insideB a b p)) w) := by
  have C1 := hi (fun W => orient_l a b p W)
  have C2 := hi (fun W => inDisc_l a b p W)
  have HP : Hid (insideB a b p = (decide (orientZ a b p = 0) && discB a b p)) := rfl
  generalize orientZ a b p = o at *
  generalize discB a b p = d at *
  have hcase : ((o == 0) = true ∧ decide (o = 0) = true) ∨ ((o == 0) = false ∧ decide (o = 0) = false) := by by_cases h : o = 0 <;> simp [h]
  rcases hcase with ⟨b1, b2⟩ | ⟨b1, b2⟩
  all_goals
    have HB := hi b2
    clear b2
    go_enter Tryz.func50, Tryz.ntmps50
    go_upto_region 1 with (fail)
    refine wp_abs (fun W => Var W w.heap.size [.int .i64 a.x, .int .i64 a.y] ∧ Var W (w.heap.size + 1) [.int .i64 b.x, .int .i64 b.y] ∧ Var W (w.heap.size + 2) [.int .i64 p.x, .int .i64 p.y] ∧ Grew w 3 W) ?_ ?_
    · exact ⟨(var2_new _ _ _ _ _ rfl).below (bl_alloc (bl_one _ _) _), (var2_new _ _ _ _ _ (by simp)).below (bl_one _ _), var2_new _ _ _ _ _ (by simp), by repeat (first | (with_reducible exact Below.refl _ _) | (with_reducible refine bl_alloc ?_ _) | (with_reducible refine Below.drew ?_) | (with_reducible refine below_drewN' ?_ _) | ((with_reducible refine bl_set ?_ ?_ _); (rotate_left; (dsimp only; omega)))), by simp⟩
    rintro W0 ⟨v1, v2, v3, hG⟩
    have HV := hi (And.intro v1 (And.intro v2 (And.intro v3 hG)))
    obtain ⟨c0, c1⟩ := v1.two
    obtain ⟨c2, c3⟩ := v2.two
    obtain ⟨c4, c5⟩ := v3.two
    clear v1 v2 v3 hG
    go_wp2_with fail
    (with_reducible refine (C1.out _).mono ?_); rintro e w1 ⟨rfl, hb1⟩
    obtain ⟨d0, d1⟩ := (HV.out.1.below hb1).two
    obtain ⟨d2, d3⟩ := (HV.out.2.1.below hb1).two
    obtain ⟨d4, d5⟩ := (HV.out.2.2.1.below hb1).two
    have HG := hi (HV.out.2.2.2.below hb1)
    clear c0 c1 c2 c3 c4 c5 hb1 HV
    first
      | (go_wp2_with fail
         (with_reducible refine (C2.out _).mono ?_); rintro e w2 ⟨rfl, hb2⟩
         go_wp2
         go_ret
         exact ⟨by rw [HP.out, HB.out]; rfl, (HG.out.below hb2).hb⟩)
      | (go_wp2
         go_ret
         exact ⟨by rw [HP.out, HB.out]; rfl, HG.out.hb⟩)

set_option maxHeartbeats 2000000 in
set_option maxRecDepth 100000 in
theorem on_l (a b p : Pt) (w : World) : Calls Tryz.prog 123 #[.agg #[.int .i64 a.x, .int .i64 a.y], .agg #[.int .i64 b.x, .int .i64 b.y], .agg #[.int .i64 p.x, .int .i64 p.y]] w (Gives (.bool (onB a b p)) w) := by
  have C1 := hi (fun W => proper_l a b W)
  have C2 := hi (fun W => inside_l a b p W)
  have q1 := eqPt' p a
  have q2 := eqPt' p b
  have HP : Hid (onB a b p = (properB a b && ((eqB p a || eqB p b) || insideB a b p))) := rfl
  generalize properB a b = pr at *
  generalize insideB a b p = ins at *
  generalize eqB p a = e1 at *
  generalize eqB p b = e2 at *
  go_enter Tryz.func123, Tryz.ntmps123
  go_upto_region 1 with (fail)
  refine wp_abs (fun W => Var W w.heap.size [.int .i64 a.x, .int .i64 a.y] ∧ Var W (w.heap.size + 1) [.int .i64 b.x, .int .i64 b.y] ∧ Var W (w.heap.size + 2) [.int .i64 p.x, .int .i64 p.y] ∧ Grew w 3 W) ?_ ?_
  · exact ⟨(var2_new _ _ _ _ _ rfl).below (bl_alloc (bl_one _ _) _), (var2_new _ _ _ _ _ (by simp)).below (bl_one _ _), var2_new _ _ _ _ _ (by simp), by repeat (first | (with_reducible exact Below.refl _ _) | (with_reducible refine bl_alloc ?_ _) | (with_reducible refine Below.drew ?_) | (with_reducible refine below_drewN' ?_ _) | ((with_reducible refine bl_set ?_ ?_ _); (rotate_left; (dsimp only; omega)))), by simp⟩
  rintro W0 ⟨v1, v2, v3, hG⟩
  have HV := hi (And.intro v1 (And.intro v2 (And.intro v3 hG)))
  obtain ⟨c0, c1⟩ := v1.two
  obtain ⟨c2, c3⟩ := v2.two
  obtain ⟨c4, c5⟩ := v3.two
  clear v1 v2 v3 hG
  go_cut [7] (fun bv W => bv = .bool (e1 || e2) ∧ W = W0)
  case first =>
    cases e1 <;> cases e2
    all_goals
      go_wp2_with fail
      go_meet
      case rel => exact ⟨rfl, rfl⟩
  case rest =>
  obtain ⟨rfl, rfl⟩ := hcut
  clear q1 q2
  have HO : Hid (onB a b p = (pr && ((e1 || e2) || ins))) := HP.out
  generalize (e1 || e2) = e at *
  go_wp2_with fail
  (with_reducible refine (C1.out _).mono ?_); rintro e' w1 ⟨rfl, hb1⟩
  obtain ⟨d0, d1⟩ := (HV.out.1.below hb1).two
  obtain ⟨d2, d3⟩ := (HV.out.2.1.below hb1).two
  obtain ⟨d4, d5⟩ := (HV.out.2.2.1.below hb1).two
  have HG := hi (HV.out.2.2.2.below hb1)
  clear c0 c1 c2 c3 c4 c5 hb1 HV
  cases pr <;> cases e
  all_goals
    first
      | (go_wp2_with fail
         (with_reducible refine (C2.out _).mono ?_); rintro e w2 ⟨rfl, hb2⟩
         go_wp2
         go_ret
         exact ⟨by rw [HO.out]; rfl, (HG.out.below hb2).hb⟩)
      | (go_wp2
         go_ret
         exact ⟨by rw [HO.out]; rfl, HG.out.hb⟩)
end Go.Proofs.YtpjaefcmaiimlaaGreat

/-
  Contracts of meet's holds, joined, apart, along.
-/
namespace Go.Proofs.YtpjaefcmaiimlaaGreat
open Go.RowKit

set_option maxHeartbeats 2000000 in
set_option maxRecDepth 100000 in
theorem holds_l (a b c d : Pt) (w : World) : Calls Tryz.prog 119 #[.agg #[.int .i64 a.x, .int .i64 a.y, .int .i64 b.x, .int .i64 b.y], .agg #[.int .i64 c.x, .int .i64 c.y, .int .i64 d.x, .int .i64 d.y]] w (Gives (.bool (holdsB a b c d)) w) := by
  have C1 := hi (fun W => inside_l a b c W)
  have C2 := hi (fun W => inside_l a b d W)
  have HP : Hid (holdsB a b c d = (insideB a b c || insideB a b d)) := rfl
  generalize insideB a b c = i1 at *
  generalize insideB a b d = i2 at *
  go_enter Tryz.func119, Tryz.ntmps119
  go_upto_region 1 with (fail)
  refine wp_abs (fun W => Var W w.heap.size [.int .i64 a.x, .int .i64 a.y, .int .i64 b.x, .int .i64 b.y] ∧ Var W (w.heap.size + 1) [.int .i64 c.x, .int .i64 c.y, .int .i64 d.x, .int .i64 d.y] ∧ Grew w 2 W) ?_ ?_
  · exact ⟨(var4_new _ _ _ _ _ _ _ rfl).below (bl_one _ _), var4_new _ _ _ _ _ _ _ (by simp), by repeat (first | (with_reducible exact Below.refl _ _) | (with_reducible refine bl_alloc ?_ _) | (with_reducible refine Below.drew ?_) | (with_reducible refine below_drewN' ?_ _) | ((with_reducible refine bl_set ?_ ?_ _); (rotate_left; (dsimp only; omega)))), by simp⟩
  rintro W0 ⟨v1, v2, hG⟩
  have HV := hi (And.intro v1 (And.intro v2 hG))
  obtain ⟨c0, c1, c2, c3⟩ := v1.four
  obtain ⟨c4, c5, c6, c7⟩ := v2.four
  clear v1 v2 hG
  go_wp2_with fail
  (with_reducible refine (C1.out _).mono ?_); rintro e' w1 ⟨rfl, hb1⟩
  obtain ⟨d0, d1, d2, d3⟩ := (HV.out.1.below hb1).four
  obtain ⟨d4, d5, d6, d7⟩ := (HV.out.2.1.below hb1).four
  have HG := hi (HV.out.2.2.below hb1)
  clear c0 c1 c2 c3 c4 c5 c6 c7 hb1 HV
  cases i1
  · go_wp2_with fail
    (with_reducible refine (C2.out _).mono ?_); rintro e w2 ⟨rfl, hb2⟩
    go_wp2
    go_ret
    exact ⟨by rw [HP.out]; rfl, (HG.out.below hb2).hb⟩
  · go_wp2
    go_ret
    exact ⟨by rw [HP.out]; rfl, HG.out.hb⟩

set_option maxHeartbeats 4000000 in
set_option maxRecDepth 100000 in
theorem joined_l (a b c d : Pt) (w : World) : Calls Tryz.prog 104 #[.agg #[.int .i64 a.x, .int .i64 a.y, .int .i64 b.x, .int .i64 b.y], .agg #[.int .i64 c.x, .int .i64 c.y, .int .i64 d.x, .int .i64 d.y]] w (Gives (.bool (joinedB a b c d)) w) := by
  have q1 := eqPt' a c
  have q2 := eqPt' a d
  have q3 := eqPt' b c
  have q4 := eqPt' b d
  have HP : Hid (joinedB a b c d = (eqB a c || eqB a d || eqB b c || eqB b d)) := rfl
  generalize eqB a c = e1 at *
  generalize eqB a d = e2 at *
  generalize eqB b c = e3 at *
  generalize eqB b d = e4 at *
  go_enter Tryz.func104, Tryz.ntmps104
  go_upto_region 1 with (fail)
  refine wp_abs (fun W => Var W w.heap.size [.int .i64 a.x, .int .i64 a.y, .int .i64 b.x, .int .i64 b.y] ∧ Var W (w.heap.size + 1) [.int .i64 c.x, .int .i64 c.y, .int .i64 d.x, .int .i64 d.y] ∧ Grew w 2 W) ?_ ?_
  · exact ⟨(var4_new _ _ _ _ _ _ _ rfl).below (bl_one _ _), var4_new _ _ _ _ _ _ _ (by simp), by repeat (first | (with_reducible exact Below.refl _ _) | (with_reducible refine bl_alloc ?_ _) | (with_reducible refine Below.drew ?_) | (with_reducible refine below_drewN' ?_ _) | ((with_reducible refine bl_set ?_ ?_ _); (rotate_left; (dsimp only; omega)))), by simp⟩
  rintro W0 ⟨v1, v2, hG⟩
  have HV := hi (And.intro v1 (And.intro v2 hG))
  obtain ⟨c0, c1, c2, c3⟩ := v1.four
  obtain ⟨c4, c5, c6, c7⟩ := v2.four
  clear v1 v2 hG
  have hcase : e1 = true ∨ (e1 = false ∧ e2 = true) ∨ (e1 = false ∧ e2 = false ∧ e3 = true) ∨ (e1 = false ∧ e2 = false ∧ e3 = false ∧ e4 = true) ∨ (e1 = false ∧ e2 = false ∧ e3 = false ∧ e4 = false) := by
    cases e1 <;> cases e2 <;> cases e3 <;> cases e4 <;> simp
  rcases hcase with rfl | ⟨rfl, rfl⟩ | ⟨rfl, rfl, rfl⟩ | ⟨rfl, rfl, rfl, rfl⟩ | ⟨rfl, rfl, rfl, rfl⟩
  all_goals
    go_wp2
    go_ret
    exact ⟨by rw [HP.out]; rfl, HV.out.2.2.hb⟩
end Go.Proofs.YtpjaefcmaiimlaaGreat

/-
  '==' of two segments; contract of meet's along.
-/
namespace Go.Proofs.YtpjaefcmaiimlaaGreat
open Go.RowKit

set_option maxRecDepth 100000 in
theorem eqSeg (a b c d : Pt) (w : World) : (Op.equalIn 10000 75 (.agg #[.int .i64 a.x, .int .i64 a.y, .int .i64 b.x, .int .i64 b.y]) (.agg #[.int .i64 c.x, .int .i64 c.y, .int .i64 d.x, .int .i64 d.y])).run Tryz.prog w = .ok (eqB a c && eqB b d) w := by
  have u3 := Tryz.underlying64
  have a3 := Tryz.isAgg64
  have z3 := Tryz.sizeOf64
  have u4 := Tryz.underlying3
  rw [show (10000 : Nat) = 9999 + 1 from rfl, Op.equalIn]
  simp only [Sem.run_bind, run_underlying Tryz.underlying75, Result.andThen_ok]
  simp only [Std.Legacy.Range.forIn_eq_forIn_range', Std.Legacy.Range.size, Nat.sub_zero, Nat.add_sub_cancel, Nat.div_one, List.range'_succ, List.range'_zero, List.forIn_cons, List.forIn_nil]
  go_simp
  have e1 : (a = c) ↔ (a.x = c.x ∧ a.y = c.y) := ⟨fun h => by rw [h]; exact ⟨rfl, rfl⟩, fun h => Pt.ext' h.1 h.2⟩
  have e2 : (b = d) ↔ (b.x = d.x ∧ b.y = d.y) := ⟨fun h => by rw [h]; exact ⟨rfl, rfl⟩, fun h => Pt.ext' h.1 h.2⟩
  by_cases h1 : a.x = c.x <;> by_cases h2 : a.y = c.y <;> by_cases h3 : b.x = d.x <;> by_cases h4 : b.y = d.y <;> simp [eqB, e1, e2, h1, h2, h3, h4]

set_option maxHeartbeats 4000000 in
set_option maxRecDepth 100000 in
theorem along_l (a b c d : Pt) (w : World) : Calls Tryz.prog 103 #[.agg #[.int .i64 a.x, .int .i64 a.y, .int .i64 b.x, .int .i64 b.y], .agg #[.int .i64 c.x, .int .i64 c.y, .int .i64 d.x, .int .i64 d.y]] w (Gives (.int .i64 (alongZ a b c d)) w) := by
  have q1 := eqSeg a b c d
  have q2 := eqSeg a b d c
  have C1 := hi (fun W => holds_l a b c d W)
  have C2 := hi (fun W => holds_l c d a b W)
  have HP : Hid (alongZ a b c d = if (eqB a c && eqB b d) || (eqB a d && eqB b c) then 4 else if holdsB a b c d || holdsB c d a b then 4 else 1) := rfl
  generalize (eqB a c && eqB b d) = s1 at *
  generalize (eqB a d && eqB b c) = s2 at *
  generalize holdsB a b c d = k1 at *
  generalize holdsB c d a b = k2 at *
  go_enter Tryz.func103, Tryz.ntmps103
  go_upto_region 2 with (fail)
  refine wp_abs (fun W => Var W w.heap.size [.int .i64 a.x, .int .i64 a.y, .int .i64 b.x, .int .i64 b.y] ∧ Var W (w.heap.size + 1) [.int .i64 c.x, .int .i64 c.y, .int .i64 d.x, .int .i64 d.y] ∧ Grew w 2 W) ?_ ?_
  · exact ⟨(var4_new _ _ _ _ _ _ _ rfl).below (bl_one _ _), var4_new _ _ _ _ _ _ _ (by simp), by repeat (first | (with_reducible exact Below.refl _ _) | (with_reducible refine bl_alloc ?_ _) | (with_reducible refine Below.drew ?_) | (with_reducible refine below_drewN' ?_ _) | ((with_reducible refine bl_set ?_ ?_ _); (rotate_left; (dsimp only; omega)))), by simp⟩
  rintro W0 ⟨v1, v2, hG⟩
  have HV := hi (And.intro v1 (And.intro v2 hG))
  obtain ⟨c0, c1, c2, c3⟩ := v1.four
  obtain ⟨c4, c5, c6, c7⟩ := v2.four
  clear v1 v2 hG
  have hcase : s1 = true ∨ (s1 = false ∧ s2 = true) ∨ (s1 = false ∧ s2 = false) := by cases s1 <;> cases s2 <;> simp
  rcases hcase with rfl | ⟨rfl, rfl⟩ | ⟨rfl, rfl⟩
  · go_wp2
    go_ret
    exact ⟨by rw [HP.out]; rfl, HV.out.2.2.hb⟩
  · go_wp2
    go_ret
    exact ⟨by rw [HP.out]; rfl, HV.out.2.2.hb⟩
  · go_wp2_with fail
    (with_reducible refine (C1.out _).mono ?_); rintro e' w1 ⟨rfl, hb1⟩
    obtain ⟨d0, d1, d2, d3⟩ := (HV.out.1.below hb1).four
    obtain ⟨d4, d5, d6, d7⟩ := (HV.out.2.1.below hb1).four
    have HG := hi (HV.out.2.2.below hb1)
    clear c0 c1 c2 c3 c4 c5 c6 c7 hb1 HV q1 q2
    cases k1
    · go_wp2_with fail
      (with_reducible refine (C2.out _).mono ?_); rintro e w2 ⟨rfl, hb2⟩
      have HG2 := hi (HG.out.below hb2)
      clear d0 d1 d2 d3 d4 d5 d6 d7 hb2 HG
      cases k2
      all_goals
        go_wp2
        go_ret
        exact ⟨by rw [HP.out]; rfl, HG2.out.hb⟩
    · go_wp2
      go_ret
      exact ⟨by rw [HP.out]; rfl, HG.out.hb⟩
end Go.Proofs.YtpjaefcmaiimlaaGreat

/-
  Contract of meet's apart.
-/
namespace Go.Proofs.YtpjaefcmaiimlaaGreat
open Go.RowKit

set_option maxHeartbeats 1000000 in
set_option maxRecDepth 100000 in
theorem apart_l (a b c d : Pt) (w : World) : Calls Tryz.prog 102 #[.agg #[.int .i64 a.x, .int .i64 a.y, .int .i64 b.x, .int .i64 b.y], .agg #[.int .i64 c.x, .int .i64 c.y, .int .i64 d.x, .int .i64 d.y]] w (Gives (.bool (apartB a b c d)) w) := by
  obtain ⟨e1, h1⟩ : ∃ e, decide (max c.x d.x < min a.x b.x) = e := ⟨_, rfl⟩
  obtain ⟨e2, h2⟩ : ∃ e, decide (max a.x b.x < min c.x d.x) = e := ⟨_, rfl⟩
  obtain ⟨e3, h3⟩ : ∃ e, decide (max c.y d.y < min a.y b.y) = e := ⟨_, rfl⟩
  obtain ⟨e4, h4⟩ : ∃ e, decide (max a.y b.y < min c.y d.y) = e := ⟨_, rfl⟩
  have HP : Hid (apartB a b c d = (e1 || e2 || e3 || e4)) := by unfold apartB; rw [h1, h2, h3, h4]; exact rfl
  have hcase : e1 = true ∨ (e1 = false ∧ e2 = true) ∨ (e1 = false ∧ e2 = false ∧ e3 = true) ∨ (e1 = false ∧ e2 = false ∧ e3 = false ∧ e4 = true) ∨ (e1 = false ∧ e2 = false ∧ e3 = false ∧ e4 = false) := by
    cases e1 <;> cases e2 <;> cases e3 <;> cases e4 <;> simp
  rcases hcase with rfl | ⟨rfl, rfl⟩ | ⟨rfl, rfl, rfl⟩ | ⟨rfl, rfl, rfl, rfl⟩ | ⟨rfl, rfl, rfl, rfl⟩
  all_goals
    generalize hm1 : min a.x b.x = m1 at *
    generalize hm2 : max a.x b.x = m2 at *
    generalize hm3 : min c.x d.x = m3 at *
    generalize hm4 : max c.x d.x = m4 at *
    generalize hm5 : min a.y b.y = m5 at *
    generalize hm6 : max a.y b.y = m6 at *
    generalize hm7 : min c.y d.y = m7 at *
    generalize hm8 : max c.y d.y = m8 at *
    go_enter Tryz.func102, Tryz.ntmps102
    go_upto_region 1 with (fail)
    dsimp only [List.append]
    go_wp2
    go_ret
    exact ⟨by rw [HP.out]; rfl, by repeat (first | (with_reducible exact Below.refl _ _) | (with_reducible refine bl_alloc ?_ _) | (with_reducible refine Below.drew ?_) | (with_reducible refine below_drewN' ?_ _) | ((with_reducible refine bl_set ?_ ?_ _); (rotate_left; (dsimp only; omega))))⟩
end Go.Proofs.YtpjaefcmaiimlaaGreat

/-
  Contract of meet's common.
-/
namespace Go.Proofs.YtpjaefcmaiimlaaGreat
open Go.RowKit

theorem dec2 (x y : Int) : ((x == y) = true ∧ decide (x = y) = true) ∨ ((x == y) = false ∧ decide (x = y) = false) := by by_cases h : x = y <;> simp [h]
theorem sides_eq (s0 s1 t0 t1 al : Int) (jo : Bool) : sidesZ s0 s1 t0 t1 al jo = if decide (s0 = 0) && decide (s1 = 0) then al else if decide (s0 = s1) || decide (t0 = t1) then 0 else if decide (s0 = -s1) && decide (t0 = -t1) then 3 else if jo then 1 else 2 := by
  unfold sidesZ; simp only [Bool.and_eq_true, Bool.or_eq_true, decide_eq_true_eq]
theorem negs {x : Int} (h : x = -1 ∨ x = 0 ∨ x = 1) : IntKind.i64.wrap (-x) = -x ∧ wrap64 (-x) = -x := ⟨IntWalk.i64_in _ (by omega), by unfold wrap64; omega⟩

set_option maxHeartbeats 8000000 in
set_option maxRecDepth 100000 in
theorem common_l (a b c d : Pt) (w : World) : Calls Tryz.prog 78 #[.agg #[.int .i64 a.x, .int .i64 a.y, .int .i64 b.x, .int .i64 b.y], .agg #[.int .i64 c.x, .int .i64 c.y, .int .i64 d.x, .int .i64 d.y]] w (Gives (.int .i64 (commonZ a b c d)) w) := by
  have C0 := hi (fun W => apart_l a b c d W)
  have C1 := hi (fun W => orient_l c d a W)
  have C2 := hi (fun W => orient_l c d b W)
  have C3 := hi (fun W => orient_l a b c W)
  have C4 := hi (fun W => orient_l a b d W)
  have C5 := hi (fun W => along_l a b c d W)
  have C6 := hi (fun W => joined_l a b c d W)
  have r1 := orient_vals c d a
  have r2 := orient_vals c d b
  have r3 := orient_vals a b c
  have r4 := orient_vals a b d
  have HP : Hid (commonZ a b c d = if apartB a b c d then 0 else sidesZ (orientZ c d a) (orientZ c d b) (orientZ a b c) (orientZ a b d) (alongZ a b c d) (joinedB a b c d)) := rfl
  generalize orientZ c d a = s0 at *
  generalize orientZ c d b = s1 at *
  generalize orientZ a b c = t0 at *
  generalize orientZ a b d = t1 at *
  generalize alongZ a b c d = al at *
  generalize joinedB a b c d = jo at *
  generalize apartB a b c d = ap at *
  have HR := hi (And.intro r1 (And.intro r2 (And.intro r3 r4)))
  clear r1 r2 r3 r4
  go_enter Tryz.func78, Tryz.ntmps78
  go_upto_region 1 with (fail)
  refine wp_abs (fun W => Var W (w.heap.size) [.int .i64 a.x, .int .i64 a.y, .int .i64 b.x, .int .i64 b.y] ∧ Var W (w.heap.size + 1) [.int .i64 c.x, .int .i64 c.y, .int .i64 d.x, .int .i64 d.y] ∧ Grew w 2 W) ?_ ?_
  · exact ⟨(var4_new _ _ _ _ _ _ _ rfl).below (bl_one _ _), var4_new _ _ _ _ _ _ _ (by simp), by repeat (first | (with_reducible exact Below.refl _ _) | (with_reducible refine bl_alloc ?_ _) | (with_reducible refine Below.drew ?_) | (with_reducible refine below_drewN' ?_ _) | ((with_reducible refine bl_set ?_ ?_ _); (rotate_left; (dsimp only; omega)))), by simp⟩
  rintro W0 hS0
  have HS0 := hi hS0
  obtain ⟨c0, c1, c2, c3⟩ := hS0.1.four
  obtain ⟨c4, c5, c6, c7⟩ := hS0.2.1.four
  clear hS0
  go_wp2_with fail
  (with_reducible refine (C0.out _).mono ?_); rintro e' w1 ⟨rfl, hb1⟩
  replace HS0 : Hid ((fun W => Var W (w.heap.size) [.int .i64 a.x, .int .i64 a.y, .int .i64 b.x, .int .i64 b.y] ∧ Var W (w.heap.size + 1) [.int .i64 c.x, .int .i64 c.y, .int .i64 d.x, .int .i64 d.y] ∧ Grew w 2 W) w1) := ⟨HS0.out.1.below hb1, HS0.out.2.1.below hb1, HS0.out.2.2.below hb1⟩
  clear c0 c1 c2 c3 c4 c5 c6 c7 hb1
  cases ap
  case true =>
    go_wp2
    go_ret
    exact ⟨by rw [HP.out]; rfl, HS0.out.2.2.hb⟩
  case false =>
  replace HP : Hid (commonZ a b c d = sidesZ s0 s1 t0 t1 al jo) := HP.out
  go_upto_region 3 with (fail)
  go_cut [5, 6] (fun x y W => x = .int .i64 s0 ∧ y = .int .i64 s1 ∧ (fun W => Var W (w.heap.size) [.int .i64 a.x, .int .i64 a.y, .int .i64 b.x, .int .i64 b.y] ∧ Var W (w.heap.size + 1) [.int .i64 c.x, .int .i64 c.y, .int .i64 d.x, .int .i64 d.y] ∧ Grew w 2 W) W)
  case first =>
    refine wp_region_held_drew (S := fun W => Var W (w.heap.size) [.int .i64 a.x, .int .i64 a.y, .int .i64 b.x, .int .i64 b.y] ∧ Var W (w.heap.size + 1) [.int .i64 c.x, .int .i64 c.y, .int .i64 d.x, .int .i64 d.y] ∧ Grew w 2 W) (by kernel_rfl) ?_ (fun q1 => ?_)
    · exact ⟨HS0.out.1.below (bel_drew _), HS0.out.2.1.below (bel_drew _), HS0.out.2.2.below (bel_drew _)⟩
    revert q1
    generalize World.drew _ = W1
    intro q1 
    refine tk (i := 0) (v := ?_) rfl (Or.inl ⟨by rfl, ?_⟩) ?_
    rotate_left
    · intro Wq hSw
      clear hSw
      go_simp
      all_goals (with_reducible rfl)
    try simp only [Act.put, x2, x4, x5, x6, x7]
    refine tk (i := 1) (v := ?_) rfl (Or.inl ⟨by rfl, ?_⟩) ?_
    rotate_left
    · intro Wq hSw
      obtain ⟨k0, k1, k2, k3⟩ := (id hSw).2.1.four
      clear hSw
      go_simp
      all_goals (with_reducible rfl)
    try simp only [Act.put, x2, x3, x4, x5, x6, x7]
    refine tk (i := 2) (v := ?_) rfl (Or.inl ⟨by rfl, ?_⟩) ?_
    rotate_left
    · intro Wq hSw
      clear hSw
      go_simp
      all_goals (with_reducible rfl)
    try simp only [Act.put, x2, x3, x4, x5, x6, x7]
    refine tk (i := 3) (v := ?_) rfl (Or.inl ⟨by rfl, ?_⟩) ?_
    rotate_left
    · intro Wq hSw
      obtain ⟨k0, k1, k2, k3⟩ := (id hSw).2.1.four
      clear hSw
      go_simp
      all_goals (with_reducible rfl)
    try simp only [Act.put, x2, x3, x4, x5, x6, x7]
    refine tk (i := 4) (v := ?_) rfl (Or.inl ⟨by rfl, ?_⟩) ?_
    rotate_left
    · intro Wq hSw
      clear hSw
      go_simp
      all_goals (with_reducible rfl)
    try simp only [Act.put, x2, x3, x4, x5, x6, x7]
    refine tk (i := 5) (v := ?_) rfl (Or.inl ⟨by rfl, ?_⟩) ?_
    rotate_left
    · intro Wq hSw
      obtain ⟨k0, k1, k2, k3⟩ := (id hSw).1.four
      clear hSw
      go_simp
      all_goals (with_reducible rfl)
    try simp only [Act.put, x2, x3, x4, x5, x6, x7]
    refine tk (i := 7) (v := ?_) rfl (Or.inl ⟨by rfl, ?_⟩) ?_
    rotate_left
    · intro Wq hSw
      clear hSw
      go_simp
      all_goals (with_reducible rfl)
    try simp only [Act.put, x2, x3, x4, x5, x6, x7]
    refine tk (i := 8) (v := ?_) rfl (Or.inl ⟨by rfl, ?_⟩) ?_
    rotate_left
    · intro Wq hSw
      obtain ⟨k0, k1, k2, k3⟩ := (id hSw).2.1.four
      clear hSw
      go_simp
      all_goals (with_reducible rfl)
    try simp only [Act.put, x2, x3, x4, x5, x6, x7]
    refine tk (i := 9) (v := ?_) rfl (Or.inl ⟨by rfl, ?_⟩) ?_
    rotate_left
    · intro Wq hSw
      clear hSw
      go_simp
      all_goals (with_reducible rfl)
    try simp only [Act.put, x2, x3, x4, x5, x6, x7]
    refine tk (i := 10) (v := ?_) rfl (Or.inl ⟨by rfl, ?_⟩) ?_
    rotate_left
    · intro Wq hSw
      obtain ⟨k0, k1, k2, k3⟩ := (id hSw).2.1.four
      clear hSw
      go_simp
      all_goals (with_reducible rfl)
    try simp only [Act.put, x2, x3, x4, x5, x6, x7]
    refine tk (i := 11) (v := ?_) rfl (Or.inl ⟨by rfl, ?_⟩) ?_
    rotate_left
    · intro Wq hSw
      clear hSw
      go_simp
      all_goals (with_reducible rfl)
    try simp only [Act.put, x2, x3, x4, x5, x6, x7]
    refine tk (i := 12) (v := ?_) rfl (Or.inl ⟨by rfl, ?_⟩) ?_
    rotate_left
    · intro Wq hSw
      obtain ⟨k0, k1, k2, k3⟩ := (id hSw).1.four
      clear hSw
      go_simp
      all_goals (with_reducible rfl)
    try simp only [Act.put, x2, x3, x4, x5, x6, x7]
    refine r1 (i := 6) rfl (fun K hK => ?_)
    go_simp
    go_at_call 79
    (with_reducible refine (C1.out _).mono ?_); rintro e w1 ⟨rfl, hb1⟩
    go_wp2_with fail
    refine hK.out _ _ ?_ (fun q2 => ?_)
    · exact ⟨(id q1).1.below hb1, (id q1).2.1.below hb1, (id q1).2.2.below hb1⟩
    clear hK K q1 hb1
    have q1 := q2
    clear q2
    try simp only [Act.put, x2, x3, x4, x5, x6, x7]
    refine r1 (i := 13) rfl (fun K hK => ?_)
    go_simp
    go_at_call 79
    (with_reducible refine (C2.out _).mono ?_); rintro e w1 ⟨rfl, hb1⟩
    go_wp2_with fail
    refine hK.out _ _ ?_ (fun q2 => ?_)
    · exact ⟨(id q1).1.below hb1, (id q1).2.1.below hb1, (id q1).2.2.below hb1⟩
    clear hK K q1 hb1
    have q1 := q2
    clear q2
    try simp only [Act.put, x2, x3, x4, x5, x6, x7]
    refine tk (i := 14) (v := ?_) rfl (Or.inl ⟨by rfl, ?_⟩) ?_
    rotate_left
    · intro Wq hSw
      clear hSw
      go_simp
      all_goals (with_reducible rfl)
    try simp only [Act.put, x2, x3, x4, x5, x6, x7]
    refine tk (i := 15) (v := ?_) rfl (Or.inl ⟨by rfl, ?_⟩) ?_
    rotate_left
    · intro Wq hSw
      clear hSw
      go_simp
      all_goals (with_reducible rfl)
    try simp only [Act.put, x2, x3, x4, x5, x6, x7]
    refine wpAnyH_done (by kernel_rfl) ?_ _
    go_wp2_with fail
    go_meet
    case rel => exact ⟨rfl, rfl, id q1⟩
  case rest =>
  obtain ⟨rfl, rfl, hS0⟩ := hcut
  replace HS0 := hi hS0
  clear hS0
  go_upto_region 4 with (fail)
  go_cut [7, 8] (fun x y W => x = .int .i64 t0 ∧ y = .int .i64 t1 ∧ (fun W => Var W (w.heap.size) [.int .i64 a.x, .int .i64 a.y, .int .i64 b.x, .int .i64 b.y] ∧ Var W (w.heap.size + 1) [.int .i64 c.x, .int .i64 c.y, .int .i64 d.x, .int .i64 d.y] ∧ Grew w 2 W) W)
  case first =>
    refine wp_region_held_drew (S := fun W => Var W (w.heap.size) [.int .i64 a.x, .int .i64 a.y, .int .i64 b.x, .int .i64 b.y] ∧ Var W (w.heap.size + 1) [.int .i64 c.x, .int .i64 c.y, .int .i64 d.x, .int .i64 d.y] ∧ Grew w 2 W) (by kernel_rfl) ?_ (fun q1 => ?_)
    · exact ⟨HS0.out.1.below (bel_drew _), HS0.out.2.1.below (bel_drew _), HS0.out.2.2.below (bel_drew _)⟩
    revert q1
    generalize World.drew _ = W1
    intro q1 
    refine tk (i := 0) (v := ?_) rfl (Or.inl ⟨by rfl, ?_⟩) ?_
    rotate_left
    · intro Wq hSw
      clear hSw
      go_simp
      all_goals (with_reducible rfl)
    try simp only [Act.put, x2, x4, x5, x6, x7]
    refine tk (i := 1) (v := ?_) rfl (Or.inl ⟨by rfl, ?_⟩) ?_
    rotate_left
    · intro Wq hSw
      obtain ⟨k0, k1, k2, k3⟩ := (id hSw).1.four
      clear hSw
      go_simp
      all_goals (with_reducible rfl)
    try simp only [Act.put, x2, x3, x4, x5, x6, x7]
    refine tk (i := 2) (v := ?_) rfl (Or.inl ⟨by rfl, ?_⟩) ?_
    rotate_left
    · intro Wq hSw
      clear hSw
      go_simp
      all_goals (with_reducible rfl)
    try simp only [Act.put, x2, x3, x4, x5, x6, x7]
    refine tk (i := 3) (v := ?_) rfl (Or.inl ⟨by rfl, ?_⟩) ?_
    rotate_left
    · intro Wq hSw
      obtain ⟨k0, k1, k2, k3⟩ := (id hSw).1.four
      clear hSw
      go_simp
      all_goals (with_reducible rfl)
    try simp only [Act.put, x2, x3, x4, x5, x6, x7]
    refine tk (i := 4) (v := ?_) rfl (Or.inl ⟨by rfl, ?_⟩) ?_
    rotate_left
    · intro Wq hSw
      clear hSw
      go_simp
      all_goals (with_reducible rfl)
    try simp only [Act.put, x2, x3, x4, x5, x6, x7]
    refine tk (i := 5) (v := ?_) rfl (Or.inl ⟨by rfl, ?_⟩) ?_
    rotate_left
    · intro Wq hSw
      obtain ⟨k0, k1, k2, k3⟩ := (id hSw).2.1.four
      clear hSw
      go_simp
      all_goals (with_reducible rfl)
    try simp only [Act.put, x2, x3, x4, x5, x6, x7]
    refine tk (i := 7) (v := ?_) rfl (Or.inl ⟨by rfl, ?_⟩) ?_
    rotate_left
    · intro Wq hSw
      clear hSw
      go_simp
      all_goals (with_reducible rfl)
    try simp only [Act.put, x2, x3, x4, x5, x6, x7]
    refine tk (i := 8) (v := ?_) rfl (Or.inl ⟨by rfl, ?_⟩) ?_
    rotate_left
    · intro Wq hSw
      obtain ⟨k0, k1, k2, k3⟩ := (id hSw).1.four
      clear hSw
      go_simp
      all_goals (with_reducible rfl)
    try simp only [Act.put, x2, x3, x4, x5, x6, x7]
    refine tk (i := 9) (v := ?_) rfl (Or.inl ⟨by rfl, ?_⟩) ?_
    rotate_left
    · intro Wq hSw
      clear hSw
      go_simp
      all_goals (with_reducible rfl)
    try simp only [Act.put, x2, x3, x4, x5, x6, x7]
    refine tk (i := 10) (v := ?_) rfl (Or.inl ⟨by rfl, ?_⟩) ?_
    rotate_left
    · intro Wq hSw
      obtain ⟨k0, k1, k2, k3⟩ := (id hSw).1.four
      clear hSw
      go_simp
      all_goals (with_reducible rfl)
    try simp only [Act.put, x2, x3, x4, x5, x6, x7]
    refine tk (i := 11) (v := ?_) rfl (Or.inl ⟨by rfl, ?_⟩) ?_
    rotate_left
    · intro Wq hSw
      clear hSw
      go_simp
      all_goals (with_reducible rfl)
    try simp only [Act.put, x2, x3, x4, x5, x6, x7]
    refine tk (i := 12) (v := ?_) rfl (Or.inl ⟨by rfl, ?_⟩) ?_
    rotate_left
    · intro Wq hSw
      obtain ⟨k0, k1, k2, k3⟩ := (id hSw).2.1.four
      clear hSw
      go_simp
      all_goals (with_reducible rfl)
    try simp only [Act.put, x2, x3, x4, x5, x6, x7]
    refine r1 (i := 6) rfl (fun K hK => ?_)
    go_simp
    go_at_call 79
    (with_reducible refine (C3.out _).mono ?_); rintro e w1 ⟨rfl, hb1⟩
    go_wp2_with fail
    refine hK.out _ _ ?_ (fun q2 => ?_)
    · exact ⟨(id q1).1.below hb1, (id q1).2.1.below hb1, (id q1).2.2.below hb1⟩
    clear hK K q1 hb1
    have q1 := q2
    clear q2
    try simp only [Act.put, x2, x3, x4, x5, x6, x7]
    refine r1 (i := 13) rfl (fun K hK => ?_)
    go_simp
    go_at_call 79
    (with_reducible refine (C4.out _).mono ?_); rintro e w1 ⟨rfl, hb1⟩
    go_wp2_with fail
    refine hK.out _ _ ?_ (fun q2 => ?_)
    · exact ⟨(id q1).1.below hb1, (id q1).2.1.below hb1, (id q1).2.2.below hb1⟩
    clear hK K q1 hb1
    have q1 := q2
    clear q2
    try simp only [Act.put, x2, x3, x4, x5, x6, x7]
    refine tk (i := 14) (v := ?_) rfl (Or.inl ⟨by rfl, ?_⟩) ?_
    rotate_left
    · intro Wq hSw
      clear hSw
      go_simp
      all_goals (with_reducible rfl)
    try simp only [Act.put, x2, x3, x4, x5, x6, x7]
    refine tk (i := 15) (v := ?_) rfl (Or.inl ⟨by rfl, ?_⟩) ?_
    rotate_left
    · intro Wq hSw
      clear hSw
      go_simp
      all_goals (with_reducible rfl)
    try simp only [Act.put, x2, x3, x4, x5, x6, x7]
    refine wpAnyH_done (by kernel_rfl) ?_ _
    go_wp2_with fail
    go_meet
    case rel => exact ⟨rfl, rfl, id q1⟩
  case rest =>
  obtain ⟨rfl, rfl, hS0⟩ := hcut
  replace HS0 := hi hS0
  clear hS0
  obtain ⟨c0, c1, c2, c3⟩ := HS0.out.1.four
  obtain ⟨c4, c5, c6, c7⟩ := HS0.out.2.1.four
  obtain ⟨n1, n2⟩ := negs HR.out.2.1
  obtain ⟨n3, n4⟩ := negs HR.out.2.2.2
  have HG := hi HS0.out.2.2
  replace HP : Hid (commonZ a b c d = if decide (s0 = 0) && decide (s1 = 0) then al else if decide (s0 = s1) || decide (t0 = t1) then 0 else if decide (s0 = -s1) && decide (t0 = -t1) then 3 else if jo then 1 else 2) := HP.out.trans (sides_eq _ _ _ _ _ _)
  clear HR
  go_upto_region 6 with (fail)
  go_cut [40] (fun x W => x = .bool (decide (s0 = 0) && decide (s1 = 0)) ∧ W = wc)
  case first =>
    rcases dec2 s0 0 with ⟨x1, x2⟩ | ⟨x1, x2⟩ <;> rcases dec2 s1 0 with ⟨y1, y2⟩ | ⟨y1, y2⟩
    all_goals
      have X2 := hi x2
      have Y2 := hi y2
      clear x2 y2
      go_wp2_with fail
      go_meet
      case rel => exact ⟨by rw [X2.out, Y2.out]; rfl, rfl⟩
  case rest =>
  obtain ⟨rfl, rfl⟩ := hcut
  generalize (decide (s0 = 0) && decide (s1 = 0)) = k1 at *
  cases k1
  case true =>
    go_wp2_with (first
      | (go_at_call 103; (with_reducible refine (C5.out _).mono ?_); rintro e' w2 ⟨rfl, hb2⟩
         replace HG := hi (HG.out.below hb2))
      | go_in)
    go_ret
    exact ⟨by rw [HP.out]; rfl, HG.out.hb⟩
  case false =>
  go_upto_region 8 with (fail)
  go_cut [50] (fun x W => x = .bool (decide (s0 = s1) || decide (t0 = t1)) ∧ W = wc)
  case first =>
    rcases dec2 s0 s1 with ⟨x1, x2⟩ | ⟨x1, x2⟩ <;> rcases dec2 t0 t1 with ⟨y1, y2⟩ | ⟨y1, y2⟩
    all_goals
      have X2 := hi x2
      have Y2 := hi y2
      clear x2 y2
      go_wp2_with fail
      go_meet
      case rel => exact ⟨by rw [X2.out, Y2.out]; rfl, rfl⟩
  case rest =>
  obtain ⟨rfl, rfl⟩ := hcut
  generalize (decide (s0 = s1) || decide (t0 = t1)) = k2 at *
  cases k2
  case true =>
    go_wp2
    go_ret
    exact ⟨by rw [HP.out]; rfl, HG.out.hb⟩
  case false =>
  go_upto_region 10 with (fail)
  go_cut [59] (fun x W => x = .bool (decide (s0 = -s1) && decide (t0 = -t1)) ∧ W = wc)
  case first =>
    rcases dec2 s0 (-s1) with ⟨x1, x2⟩ | ⟨x1, x2⟩ <;> rcases dec2 t0 (-t1) with ⟨y1, y2⟩ | ⟨y1, y2⟩
    all_goals
      have X2 := hi x2
      have Y2 := hi y2
      clear x2 y2
      go_wp2_with fail
      go_meet
      case rel => exact ⟨by rw [X2.out, Y2.out]; rfl, rfl⟩
  case rest =>
  obtain ⟨rfl, rfl⟩ := hcut
  clear n1 n2 n3 n4
  generalize (decide (s0 = -s1) && decide (t0 = -t1)) = k3 at *
  cases k3
  case true =>
    go_wp2
    go_ret
    exact ⟨by rw [HP.out]; rfl, HG.out.hb⟩
  case false =>
  cases jo
  all_goals
    go_wp2_with (first
      | (go_at_call 104; (with_reducible refine (C6.out _).mono ?_); rintro e' w2 ⟨rfl, hb2⟩
         replace HG := hi (HG.out.below hb2))
      | go_in)
    go_ret
    exact ⟨by rw [HP.out]; rfl, HG.out.hb⟩
end Go.Proofs.YtpjaefcmaiimlaaGreat

/-
  Contract of meet's Segs.
-/
namespace Go.Proofs.YtpjaefcmaiimlaaGreat
open Go.RowKit

set_option maxHeartbeats 4000000 in
set_option maxRecDepth 100000 in
theorem segs_l (a b c d : Pt) (w : World) : Calls Tryz.prog 66 #[.agg #[.int .i64 a.x, .int .i64 a.y], .agg #[.int .i64 b.x, .int .i64 b.y], .agg #[.int .i64 c.x, .int .i64 c.y], .agg #[.int .i64 d.x, .int .i64 d.y]] w (Gives (.tuple #[.int .i64 (segsN a b c d), .int .i64 (segsE a b c d)]) w) := by
  have C1 := hi (fun W => proper_l a b W)
  have C2 := hi (fun W => proper_l c d W)
  have C3 := hi (fun W => common_l a b c d W)
  have HP : Hid (segsN a b c d = (if properB a b && properB c d then commonZ a b c d else 0) ∧ segsE a b c d = if properB a b && properB c d then 0 else 2) := ⟨rfl, rfl⟩
  generalize properB a b = p1 at *
  generalize properB c d = p2 at *
  generalize commonZ a b c d = z at *
  go_enter Tryz.func66, Tryz.ntmps66
  go_upto_region 1 with (fail)
  refine wp_abs (fun W => Var W w.heap.size [.int .i64 a.x, .int .i64 a.y] ∧ Var W (w.heap.size + 1) [.int .i64 b.x, .int .i64 b.y] ∧ Var W (w.heap.size + 1 + 1) [.int .i64 c.x, .int .i64 c.y] ∧ Var W (w.heap.size + 1 + 1 + 1) [.int .i64 d.x, .int .i64 d.y] ∧ Grew w 4 W) ?_ ?_
  · exact ⟨(var2_new _ _ _ _ _ rfl).below (bl_alloc (bl_alloc (bl_one _ _) _) _), (var2_new _ _ _ _ _ (by simp)).below (bl_alloc (bl_one _ _) _), (var2_new _ _ _ _ _ (by simp)).below (bl_one _ _), var2_new _ _ _ _ _ (by simp), by repeat (first | (with_reducible exact Below.refl _ _) | (with_reducible refine bl_alloc ?_ _) | (with_reducible refine Below.drew ?_) | (with_reducible refine below_drewN' ?_ _) | ((with_reducible refine bl_set ?_ ?_ _); (rotate_left; (dsimp only; omega)))), by simp⟩
  rintro W0 ⟨v1, v2, v3, v4, hG⟩
  have HG := hi hG
  obtain ⟨c0, c1⟩ := v1.two
  obtain ⟨c2, c3⟩ := v2.two
  obtain ⟨c4, c5⟩ := v3.two
  obtain ⟨c6, c7⟩ := v4.two
  have l1 := v1.lt
  have l2 := v2.lt
  have l3 := v3.lt
  have l4 := v4.lt
  clear v1 v2 v3 v4 hG
  go_cut [10, 11] (fun x y W => ∃ g1 g2, x = .pointer (some ⟨g1, 0, none⟩) ∧ y = .pointer (some ⟨g2, 0, none⟩) ∧ Var W g1 [.int .i64 a.x, .int .i64 a.y, .int .i64 b.x, .int .i64 b.y] ∧ Var W g2 [.int .i64 c.x, .int .i64 c.y, .int .i64 d.x, .int .i64 d.y] ∧ Grew w 4 W)
  case first =>
    go_region
    all_goals
      go_wp2_with fail
      go_meet
      case rel => first
        | exact ⟨_, _, rfl, rfl, ((var4_new _ _ _ _ _ _ _ rfl).below (bl_one _ _)).below (bel_drew _), (var4_new _ _ _ _ _ _ _ (by simp)).below (bel_drew _), ((HG.out.new _).new _).below (bel_drew _)⟩
        | exact ⟨_, _, rfl, rfl, (var4_new _ _ _ _ _ _ _ (by simp)).below (bel_drew _), ((var4_new _ _ _ _ _ _ _ rfl).below (bl_one _ _)).below (bel_drew _), ((HG.out.new _).new _).below (bel_drew _)⟩
  case rest =>
  obtain ⟨g1, g2, rfl, rfl, v1, v2, hG⟩ := hcut
  clear c0 c1 c2 c3 c4 c5 c6 c7 l1 l2 l3 l4 HG
  have HV := hi (And.intro v1 (And.intro v2 hG))
  obtain ⟨c0, c1, c2, c3⟩ := v1.four
  obtain ⟨c4, c5, c6, c7⟩ := v2.four
  clear v1 v2 hG
  go_wp2_with fail
  (with_reducible refine (C1.out _).mono ?_); rintro e' w1 ⟨rfl, hb1⟩
  replace HV := hi (And.intro (HV.out.1.below hb1) (And.intro (HV.out.2.1.below hb1) (HV.out.2.2.below hb1)))
  clear c0 c1 c2 c3 c4 c5 c6 c7 hb1
  obtain ⟨c0, c1, c2, c3⟩ := HV.out.1.four
  obtain ⟨c4, c5, c6, c7⟩ := HV.out.2.1.four
  cases p1
  case false =>
    go_wp2
    go_ret2
    exact ⟨by rw [HP.out.1, HP.out.2]; rfl, HV.out.2.2.hb⟩
  case true =>
  go_wp2_with fail
  (with_reducible refine (C2.out _).mono ?_); rintro e' w2 ⟨rfl, hb1⟩
  replace HV := hi (And.intro (HV.out.1.below hb1) (And.intro (HV.out.2.1.below hb1) (HV.out.2.2.below hb1)))
  clear c0 c1 c2 c3 c4 c5 c6 c7 hb1
  obtain ⟨c0, c1, c2, c3⟩ := HV.out.1.four
  obtain ⟨c4, c5, c6, c7⟩ := HV.out.2.1.four
  cases p2
  case false =>
    go_wp2
    go_ret2
    exact ⟨by rw [HP.out.1, HP.out.2]; rfl, HV.out.2.2.hb⟩
  case true =>
    go_wp2_with fail
    (with_reducible refine (C3.out _).mono ?_); rintro e' w3 ⟨rfl, hb1⟩
    replace HV := hi (HV.out.2.2.below hb1)
    clear c0 c1 c2 c3 c4 c5 c6 c7 hb1
    go_wp2
    go_ret2
    exact ⟨by rw [HP.out.1, HP.out.2]; rfl, HV.out.hb⟩
end Go.Proofs.YtpjaefcmaiimlaaGreat

/-
  The law's known of layer 4; the document's Fits; the law's p.
-/
namespace Go.Proofs.YtpjaefcmaiimlaaGreat
open Go.RowKit

set_option maxHeartbeats 1000000 in
set_option maxRecDepth 100000 in
theorem refFits_l (a : Pt) (w : World) : Calls Tryz.prog 72 #[.agg #[.int .i64 a.x, .int .i64 a.y]] w (Gives (.bool (fitB a)) w) := by
  go_enter Tryz.func72, Tryz.ntmps72
  go_upto_region 1 with (fail)
  refine wp_abs (fun W => Var W w.heap.size [.int .i64 a.x, .int .i64 a.y] ∧ Grew w 1 W) ?_ ?_
  · exact ⟨var2_new _ _ _ _ _ rfl, by repeat (first | (with_reducible exact Below.refl _ _) | (with_reducible refine bl_alloc ?_ _) | (with_reducible refine Below.drew ?_) | (with_reducible refine below_drewN' ?_ _) | ((with_reducible refine bl_set ?_ ?_ _); (rotate_left; (dsimp only; omega)))), by simp⟩
  rintro W0 ⟨v1, hG⟩
  have HG := hi hG
  obtain ⟨c0, c1⟩ := v1.two
  clear v1 hG
  rcases Int.lt_or_le a.x (-4294967296) with h1 | h1
  · have b1 : decide (-4294967296 ≤ a.x) = false := by simp; omega
    have HF : Hid (fitB a = false) := fitB_no (by unfold Pt.fits; omega)
    clear h1
    go_wp2
    go_ret
    exact ⟨by rw [HF.out]; rfl, HG.out.hb⟩
  have b1 : decide (-4294967296 ≤ a.x) = true := by simp; omega
  rcases Int.lt_or_le 4294967296 a.x with h2 | h2
  · have b2 : decide (a.x ≤ 4294967296) = false := by simp; omega
    have HF : Hid (fitB a = false) := fitB_no (by unfold Pt.fits; omega)
    clear h1 h2
    go_wp2
    go_ret
    exact ⟨by rw [HF.out]; rfl, HG.out.hb⟩
  have b2 : decide (a.x ≤ 4294967296) = true := by simp; omega
  rcases Int.lt_or_le a.y (-4294967296) with h3 | h3
  · have b3 : decide (-4294967296 ≤ a.y) = false := by simp; omega
    have HF : Hid (fitB a = false) := fitB_no (by unfold Pt.fits; omega)
    clear h1 h2 h3
    go_wp2
    go_ret
    exact ⟨by rw [HF.out]; rfl, HG.out.hb⟩
  have b3 : decide (-4294967296 ≤ a.y) = true := by simp; omega
  rcases Int.lt_or_le 4294967296 a.y with h4 | h4
  · have b4 : decide (a.y ≤ 4294967296) = false := by simp; omega
    have HF : Hid (fitB a = false) := fitB_no (by unfold Pt.fits; omega)
    clear h1 h2 h3 h4
    go_wp2
    go_ret
    exact ⟨by rw [HF.out]; rfl, HG.out.hb⟩
  have b4 : decide (a.y ≤ 4294967296) = true := by simp; omega
  have HF : Hid (fitB a = true) := fitB_yes (by unfold Pt.fits; omega)
  clear h1 h2 h3 h4
  go_wp2
  go_ret
  exact ⟨by rw [HF.out]; rfl, HG.out.hb⟩

end Go.Proofs.YtpjaefcmaiimlaaGreat
