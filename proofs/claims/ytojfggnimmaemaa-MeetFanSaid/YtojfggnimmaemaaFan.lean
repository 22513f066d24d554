/-
  The walk of the law MeetFan.
-/
import Derived.Test.YtojfggnimmaemaaAreas
import Derived.Test.YtojfggnimmaemaaGeoMath
namespace Go.Proofs.Ytojfggnimmaemaa
open Go.RowKit

set_option maxHeartbeats 4000000 in
set_option maxRecDepth 100000 in
theorem fan_l (a b c : Pt) (w : World) : Calls Try.prog 18 #[.agg #[.int .i64 a.x, .int .i64 a.y], .agg #[.int .i64 b.x, .int .i64 b.y], .agg #[.int .i64 c.x, .int .i64 c.y]] w (Gives (.bool true) w) := by
  have C1 := Lib.hid (fun W => segs_l a b a c W)
  have C2 := Lib.hid (fun W => refOrient_l a b c W)
  have C3 := Lib.hid (fun W => on_l a b c W)
  have C4 := Lib.hid (fun W => on_l a c b W)
  have he := segsE_vals a b a c
  have H2 := Lib.hid (@segsE_two a b a c)
  have H0 := Lib.hid (fan_is a b c)
  generalize segsN a b a c = n at *
  generalize segsE a b a c = e0 at *
  generalize orientZ a b c = o at *
  generalize onB a b c = o1 at *
  generalize onB a c b = o2 at *
  go_enter Try.func18, Try.ntmps18
  go_upto_region 1 with (fail)
  refine wp_abs (fun W => Var W w.heap.size [.int .i64 a.x, .int .i64 a.y] ∧ Var W (w.heap.size + 1) [.int .i64 b.x, .int .i64 b.y] ∧ Var W (w.heap.size + 1 + 1) [.int .i64 c.x, .int .i64 c.y] ∧ Grew w 3 W) ?_ ?_
  · exact ⟨(var2_new _ _ _ _ _ rfl).below (bl_alloc (bl_one _ _) _), (var2_new _ _ _ _ _ (by simp)).below (bl_one _ _), var2_new _ _ _ _ _ (by simp), by repeat (first | (with_reducible exact Below.refl _ _) | (with_reducible refine bl_alloc ?_ _) | (with_reducible refine Below.drew ?_) | (with_reducible refine below_drewN' ?_ _) | ((with_reducible refine bl_set ?_ ?_ _); (rotate_left; (dsimp only; omega)))), by simp⟩
  rintro W0 ⟨v1, v2, v3, hG⟩
  have HV := Lib.hid (And.intro v1 (And.intro v2 (And.intro v3 hG)))
  obtain ⟨c0, c1⟩ := v1.two
  obtain ⟨c2, c3⟩ := v2.two
  obtain ⟨c4, c5⟩ := v3.two
  clear v1 v2 v3 hG
  go_wp2_with fail
  (with_reducible refine (C1.out _).mono ?_); rintro e w1 ⟨rfl, hb1⟩
  replace HV := Lib.hid (And.intro (HV.out.1.below hb1) (And.intro (HV.out.2.1.below hb1) (And.intro (HV.out.2.2.1.below hb1) (HV.out.2.2.2.below hb1))))
  clear c0 c1 c2 c3 c4 c5 hb1
  rcases he with rfl | rfl
  case inr =>
    obtain rfl : n = 0 := H2.out (by first | rfl | trivial)
    go_wp2_with (first
      | (go_at_call 48; (with_reducible refine (known4_l _).mono ?_); rintro e w2 ⟨rfl, hb2⟩)
      | go_in)
    go_ret
    exact ⟨rfl, (HV.out.2.2.2.below hb2).hb⟩
  case inl =>
  have hn : n = if o = 0 ∧ (o1 || o2) = true then 4 else 1 := H0.out (by first | rfl | trivial)
  have HN := Lib.hid hn
  clear hn H0 H2
  obtain ⟨c0, c1⟩ := HV.out.1.two
  obtain ⟨c2, c3⟩ := HV.out.2.1.two
  obtain ⟨c4, c5⟩ := HV.out.2.2.1.two
  go_upto_region 4 with (fail)
  go_cut [9] (fun x W => x = .bool (decide (o = 0) && (o1 || o2)) ∧ Grew w 3 W)
  case first =>
    go_wp2_with fail
    (with_reducible refine (C2.out _).mono ?_); rintro e w1 ⟨rfl, hb1⟩
    replace HV := Lib.hid (And.intro (HV.out.1.below hb1) (And.intro (HV.out.2.1.below hb1) (And.intro (HV.out.2.2.1.below hb1) (HV.out.2.2.2.below hb1))))
    clear c0 c1 c2 c3 c4 c5 hb1
    obtain ⟨c0, c1⟩ := HV.out.1.two
    obtain ⟨c2, c3⟩ := HV.out.2.1.two
    obtain ⟨c4, c5⟩ := HV.out.2.2.1.two
    rcases dec2 o 0 with ⟨x1, x2⟩ | ⟨x1, x2⟩
    case inr =>
      have X2 := Lib.hid x2
      clear x2
      go_wp2_with fail
      go_meet
      case rel => exact ⟨by rw [X2.out]; rfl, HV.out.2.2.2⟩
    case inl =>
      have X2 := Lib.hid x2
      clear x2
      go_wp2_with fail
      (with_reducible refine (C3.out _).mono ?_); rintro e w1 ⟨rfl, hb1⟩
      replace HV := Lib.hid (And.intro (HV.out.1.below hb1) (And.intro (HV.out.2.1.below hb1) (And.intro (HV.out.2.2.1.below hb1) (HV.out.2.2.2.below hb1))))
      clear c0 c1 c2 c3 c4 c5 hb1
      obtain ⟨c0, c1⟩ := HV.out.1.two
      obtain ⟨c2, c3⟩ := HV.out.2.1.two
      obtain ⟨c4, c5⟩ := HV.out.2.2.1.two
      cases o1
      case true =>
        go_wp2_with fail
        go_meet
        case rel => exact ⟨by rw [X2.out]; rfl, HV.out.2.2.2⟩
      case false =>
        go_wp2_with fail
        (with_reducible refine (C4.out _).mono ?_); rintro e w1 ⟨rfl, hb1⟩
        cases o2
        all_goals
          go_wp2_with fail
          go_meet
          case rel => exact ⟨by rw [X2.out]; rfl, HV.out.2.2.2.below hb1⟩
  case rest =>
  obtain ⟨rfl, hG⟩ := hcut
  have HG := Lib.hid hG
  clear c0 c1 c2 c3 c4 c5 HV hG
  have HS : Hid (n = if (decide (o = 0) && (o1 || o2)) = true then 4 else 1) := by
    unfold Hid
    rw [HN.out]
    simp only [Bool.and_eq_true, decide_eq_true_eq]
  clear HN
  generalize (decide (o = 0) && (o1 || o2)) = k at *
  cases k
  case true =>
    obtain rfl : n = 4 := HS.out
    go_wp2_with (first
      | (go_at_call 48; (with_reducible refine (known4_l _).mono ?_); rintro e w2 ⟨rfl, hb2⟩)
      | go_in)
    go_ret
    exact ⟨rfl, (HG.out.below hb2).hb⟩
  case false =>
    obtain rfl : n = 1 := HS.out
    go_wp2_with (first
      | (go_at_call 48; (with_reducible refine (known4_l _).mono ?_); rintro e w2 ⟨rfl, hb2⟩)
      | go_in)
    go_ret
    exact ⟨rfl, (HG.out.below hb2).hb⟩
end Go.Proofs.Ytojfggnimmaemaa
