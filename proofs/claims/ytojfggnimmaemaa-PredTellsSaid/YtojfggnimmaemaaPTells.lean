/-
  The walk of the law PredTells.
-/
import Derived.Test.YtojfggnimmaemaaKnown3
import Derived.Test.YtojfggnimmaemaaConvexes
namespace Go.Proofs.Ytojfggnimmaemaa
open Go.RowKit

set_option maxHeartbeats 8000000 in
set_option maxRecDepth 100000 in
theorem ptells_l (a b c : Pt) (w : World) : Calls Try.prog 10 #[.agg #[.int .i64 a.x, .int .i64 a.y], .agg #[.int .i64 b.x, .int .i64 b.y], .agg #[.int .i64 c.x, .int .i64 c.y]] w (Gives (.bool true) w) := by
  have C1 := Lib.hid (fun W => inDisc_at a b a false (disc_a a b) W)
  have C2 := Lib.hid (fun W => inDisc_at a b b false (disc_b a b) W)
  have C3 := Lib.hid (fun W => middle_l a b W)
  have C4 := Lib.hid (fun W => orient_l a b c W)
  have C5 := Lib.hid (fun W => inCircle_at a b c b 0 (circ_b a b c) W)
  have C6 := Lib.hid (fun W => inCircle_at a b c c 0 (circ_c a b c) W)
  have C7 := Lib.hid (fun W => inDisc_l a b c W)
  have C8 := Lib.hid (fun W => inDisc_l b c a W)
  have D3 := Lib.hid (disc_three a b c)
  have M1 : Hid (midOk a b = true → a ≠ b → ∀ W, Calls Try.prog 24 #[.agg #[.int .i64 a.x, .int .i64 a.y], .agg #[.int .i64 b.x, .int .i64 b.y], .agg #[.int .i64 (midP a b).x, .int .i64 (midP a b).y]] W (Gives (.bool true) W)) := fun h hne W => inDisc_at a b (midP a b) true (disc_mid h hne) W
  have M2 : Hid (midOk a b = true → orientZ a b c ≠ 0 → ∀ W, Calls Try.prog 22 #[.agg #[.int .i64 a.x, .int .i64 a.y], .agg #[.int .i64 b.x, .int .i64 b.y], .agg #[.int .i64 c.x, .int .i64 c.y], .agg #[.int .i64 (midP a b).x, .int .i64 (midP a b).y]] W (Gives (.int .i64 1) W)) := fun h hne W => inCircle_at a b c (midP a b) 1 (circ_mid h hne) W
  have hv := orient_vals a b c
  generalize midP a b = m at *
  generalize midOk a b = ok at *
  generalize orientZ a b c = n at *
  generalize discB a b c = d1 at *
  generalize discB b c a = d2 at *
  have HV := Lib.hid hv
  clear hv
  go_enter Try.func10, Try.ntmps10
  go_upto_region 1 with (fail)
  refine wp_abs (fun W => Var W (w.heap.size) [.int .i64 a.x, .int .i64 a.y] ∧ Var W (w.heap.size + 1) [.int .i64 b.x, .int .i64 b.y] ∧ Var W (w.heap.size + 1 + 1) [.int .i64 c.x, .int .i64 c.y] ∧ Grew w 3 W) ?_ ?_
  · exact ⟨(var2_new _ _ _ _ _ rfl).below (bl_alloc (bl_one _ _) _), (var2_new _ _ _ _ _ (by simp)).below (bl_one _ _), var2_new _ _ _ _ _ (by simp), by repeat (first | (with_reducible exact Below.refl _ _) | (with_reducible refine bl_alloc ?_ _) | (with_reducible refine Below.drew ?_) | (with_reducible refine below_drewN' ?_ _) | ((with_reducible refine bl_set ?_ ?_ _); (rotate_left; (dsimp only; omega)))), by simp⟩
  rintro W0 hS0
  have HS0 := Lib.hid hS0
  clear hS0
  obtain ⟨c0, c1⟩ := HS0.out.1.two
  obtain ⟨c2, c3⟩ := HS0.out.2.1.two
  obtain ⟨c4, c5⟩ := HS0.out.2.2.1.two
  go_wp2_with fail
  (with_reducible refine (C1.out _).mono ?_); rintro e w1 ⟨rfl, hb1⟩
  replace HS0 : Hid ((fun W => Var W (w.heap.size) [.int .i64 a.x, .int .i64 a.y] ∧ Var W (w.heap.size + 1) [.int .i64 b.x, .int .i64 b.y] ∧ Var W (w.heap.size + 1 + 1) [.int .i64 c.x, .int .i64 c.y] ∧ Grew w 3 W) w1) := ⟨HS0.out.1.below hb1, HS0.out.2.1.below hb1, HS0.out.2.2.1.below hb1, HS0.out.2.2.2.below hb1⟩
  clear c0 c1 c2 c3 c4 c5 hb1
  obtain ⟨c0, c1⟩ := HS0.out.1.two
  obtain ⟨c2, c3⟩ := HS0.out.2.1.two
  obtain ⟨c4, c5⟩ := HS0.out.2.2.1.two
  go_wp2_with fail
  (with_reducible refine (C2.out _).mono ?_); rintro e w1 ⟨rfl, hb1⟩
  replace HS0 : Hid ((fun W => Var W (w.heap.size) [.int .i64 a.x, .int .i64 a.y] ∧ Var W (w.heap.size + 1) [.int .i64 b.x, .int .i64 b.y] ∧ Var W (w.heap.size + 1 + 1) [.int .i64 c.x, .int .i64 c.y] ∧ Grew w 3 W) w1) := ⟨HS0.out.1.below hb1, HS0.out.2.1.below hb1, HS0.out.2.2.1.below hb1, HS0.out.2.2.2.below hb1⟩
  clear c0 c1 c2 c3 c4 c5 hb1
  obtain ⟨c0, c1⟩ := HS0.out.1.two
  obtain ⟨c2, c3⟩ := HS0.out.2.1.two
  obtain ⟨c4, c5⟩ := HS0.out.2.2.1.two
  go_upto_region 3 with (fail)
  go_cut [7, 8] (fun p o W => ∃ g7 : Nat, p = .pointer (some ⟨g7, 0, none⟩) ∧ o = .bool ok ∧ Var W (g7) [.int .i64 m.x, .int .i64 m.y] ∧ (fun W => Var W (w.heap.size) [.int .i64 a.x, .int .i64 a.y] ∧ Var W (w.heap.size + 1) [.int .i64 b.x, .int .i64 b.y] ∧ Var W (w.heap.size + 1 + 1) [.int .i64 c.x, .int .i64 c.y] ∧ Grew w 3 W) W)
  case first =>
    go_wp2_with fail
    (with_reducible refine (C3.out _).mono ?_); rintro e w1 ⟨rfl, hb1⟩
    replace HS0 : Hid ((fun W => Var W (w.heap.size) [.int .i64 a.x, .int .i64 a.y] ∧ Var W (w.heap.size + 1) [.int .i64 b.x, .int .i64 b.y] ∧ Var W (w.heap.size + 1 + 1) [.int .i64 c.x, .int .i64 c.y] ∧ Grew w 3 W) w1) := ⟨HS0.out.1.below hb1, HS0.out.2.1.below hb1, HS0.out.2.2.1.below hb1, HS0.out.2.2.2.below hb1⟩
    clear c0 c1 c2 c3 c4 c5 hb1
    obtain ⟨c0, c1⟩ := HS0.out.1.two
    obtain ⟨c2, c3⟩ := HS0.out.2.1.two
    obtain ⟨c4, c5⟩ := HS0.out.2.2.1.two
    clear M1 M2 C4 C5 C6 C7 C8 C1 C2 HV D3
    go_wp2_with fail
    go_meet
    case rel =>
      exact ⟨_, rfl, rfl, var2_new _ _ _ _ _ rfl, HS0.out.1.below (bl_one _ _), HS0.out.2.1.below (bl_one _ _), HS0.out.2.2.1.below (bl_one _ _), HS0.out.2.2.2.new _⟩
  case rest =>
  obtain ⟨g7, rfl, rfl, v7, hS0⟩ := hcut
  replace HS0 : Hid ((fun W => Var W (w.heap.size) [.int .i64 a.x, .int .i64 a.y] ∧ Var W (w.heap.size + 1) [.int .i64 b.x, .int .i64 b.y] ∧ Var W (w.heap.size + 1 + 1) [.int .i64 c.x, .int .i64 c.y] ∧ Var W (g7) [.int .i64 m.x, .int .i64 m.y] ∧ Grew w 3 W) _) := ⟨hS0.1, hS0.2.1, hS0.2.2.1, v7, hS0.2.2.2⟩
  clear hS0 v7 c0 c1 c2 c3 c4 c5 C1 C2 C3
  go_upto_region 4 with (fail)
  go_cut [38] (fun tv W => tv = .bool false ∧ (fun W => Var W (w.heap.size) [.int .i64 a.x, .int .i64 a.y] ∧ Var W (w.heap.size + 1) [.int .i64 b.x, .int .i64 b.y] ∧ Var W (w.heap.size + 1 + 1) [.int .i64 c.x, .int .i64 c.y] ∧ Var W (g7) [.int .i64 m.x, .int .i64 m.y] ∧ Grew w 3 W) W)
  case first =>
    clear C4 C5 C6 C7 C8 M2 HV D3
    obtain ⟨c0, c1⟩ := HS0.out.1.two
    obtain ⟨c2, c3⟩ := HS0.out.2.1.two
    obtain ⟨c4, c5⟩ := HS0.out.2.2.1.two
    obtain ⟨c6, c7⟩ := HS0.out.2.2.2.1.two
    have hE := eqPt a b
    cases ok
    · go_wp2_with fail
      go_meet
      case rel => exact ⟨rfl, HS0.out⟩
    · by_cases hab : a = b
      · rw [decide_eq_true hab] at hE
        clear hab M1
        go_wp2_with fail
        go_meet
        case rel => exact ⟨rfl, HS0.out⟩
      · rw [decide_eq_false hab] at hE
        have M3 := Lib.hid (M1.out rfl hab)
        clear hab M1
        go_wp2_with fail
        (with_reducible refine (M3.out _).mono ?_); rintro e w1 ⟨rfl, hb1⟩
        replace HS0 : Hid ((fun W => Var W (w.heap.size) [.int .i64 a.x, .int .i64 a.y] ∧ Var W (w.heap.size + 1) [.int .i64 b.x, .int .i64 b.y] ∧ Var W (w.heap.size + 1 + 1) [.int .i64 c.x, .int .i64 c.y] ∧ Var W (g7) [.int .i64 m.x, .int .i64 m.y] ∧ Grew w 3 W) w1) := ⟨HS0.out.1.below hb1, HS0.out.2.1.below hb1, HS0.out.2.2.1.below hb1, HS0.out.2.2.2.1.below hb1, HS0.out.2.2.2.2.below hb1⟩
        clear c0 c1 c2 c3 c4 c5 c6 c7 hb1
        obtain ⟨c0, c1⟩ := HS0.out.1.two
        obtain ⟨c2, c3⟩ := HS0.out.2.1.two
        obtain ⟨c4, c5⟩ := HS0.out.2.2.1.two
        obtain ⟨c6, c7⟩ := HS0.out.2.2.2.1.two
        go_wp2_with fail
        go_meet
        case rel => exact ⟨rfl, HS0.out⟩
  case rest =>
  obtain ⟨rfl, hS0⟩ := hcut
  replace HS0 := Lib.hid hS0
  clear hS0 M1
  obtain ⟨c0, c1⟩ := HS0.out.1.two
  obtain ⟨c2, c3⟩ := HS0.out.2.1.two
  obtain ⟨c4, c5⟩ := HS0.out.2.2.1.two
  obtain ⟨c6, c7⟩ := HS0.out.2.2.2.1.two
  go_wp2_with fail
  (with_reducible refine (C4.out _).mono ?_); rintro e w1 ⟨rfl, hb1⟩
  replace HS0 : Hid ((fun W => Var W (w.heap.size) [.int .i64 a.x, .int .i64 a.y] ∧ Var W (w.heap.size + 1) [.int .i64 b.x, .int .i64 b.y] ∧ Var W (w.heap.size + 1 + 1) [.int .i64 c.x, .int .i64 c.y] ∧ Var W (g7) [.int .i64 m.x, .int .i64 m.y] ∧ Grew w 3 W) w1) := ⟨HS0.out.1.below hb1, HS0.out.2.1.below hb1, HS0.out.2.2.1.below hb1, HS0.out.2.2.2.1.below hb1, HS0.out.2.2.2.2.below hb1⟩
  clear c0 c1 c2 c3 c4 c5 c6 c7 hb1
  obtain ⟨c0, c1⟩ := HS0.out.1.two
  obtain ⟨c2, c3⟩ := HS0.out.2.1.two
  obtain ⟨c4, c5⟩ := HS0.out.2.2.1.two
  obtain ⟨c6, c7⟩ := HS0.out.2.2.2.1.two
  go_upto_region 7 with (fail)
  go_cut [55] (fun tv W => tv = .bool false ∧ (fun W => Var W (w.heap.size) [.int .i64 a.x, .int .i64 a.y] ∧ Var W (w.heap.size + 1) [.int .i64 b.x, .int .i64 b.y] ∧ Var W (w.heap.size + 1 + 1) [.int .i64 c.x, .int .i64 c.y] ∧ Var W (g7) [.int .i64 m.x, .int .i64 m.y] ∧ Grew w 3 W) W)
  case first =>
    clear C4 C5 C6 C7 C8 D3
    by_cases hn : n = 0
    · subst hn
      clear M2
      go_wp2_with fail
      go_meet
      case rel => exact ⟨rfl, HS0.out⟩
    · cases ok
      · rcases HV.out with rfl | rfl | rfl
        all_goals
          go_wp2_with fail
          go_meet
          case rel => exact ⟨rfl, HS0.out⟩
      · have M4 := Lib.hid (M2.out rfl hn)
        clear M2
        rcases HV.out with rfl | rfl | rfl
        · clear hn
          go_wp2_with fail
          (with_reducible refine (M4.out _).mono ?_); rintro e w1 ⟨rfl, hb1⟩
          replace HS0 : Hid ((fun W => Var W (w.heap.size) [.int .i64 a.x, .int .i64 a.y] ∧ Var W (w.heap.size + 1) [.int .i64 b.x, .int .i64 b.y] ∧ Var W (w.heap.size + 1 + 1) [.int .i64 c.x, .int .i64 c.y] ∧ Var W (g7) [.int .i64 m.x, .int .i64 m.y] ∧ Grew w 3 W) w1) := ⟨HS0.out.1.below hb1, HS0.out.2.1.below hb1, HS0.out.2.2.1.below hb1, HS0.out.2.2.2.1.below hb1, HS0.out.2.2.2.2.below hb1⟩
          clear c0 c1 c2 c3 c4 c5 c6 c7 hb1
          obtain ⟨c0, c1⟩ := HS0.out.1.two
          obtain ⟨c2, c3⟩ := HS0.out.2.1.two
          obtain ⟨c4, c5⟩ := HS0.out.2.2.1.two
          obtain ⟨c6, c7⟩ := HS0.out.2.2.2.1.two
          go_wp2_with fail
          go_meet
          case rel => exact ⟨rfl, HS0.out⟩
        · exact absurd rfl hn
        · clear hn
          go_wp2_with fail
          (with_reducible refine (M4.out _).mono ?_); rintro e w1 ⟨rfl, hb1⟩
          replace HS0 : Hid ((fun W => Var W (w.heap.size) [.int .i64 a.x, .int .i64 a.y] ∧ Var W (w.heap.size + 1) [.int .i64 b.x, .int .i64 b.y] ∧ Var W (w.heap.size + 1 + 1) [.int .i64 c.x, .int .i64 c.y] ∧ Var W (g7) [.int .i64 m.x, .int .i64 m.y] ∧ Grew w 3 W) w1) := ⟨HS0.out.1.below hb1, HS0.out.2.1.below hb1, HS0.out.2.2.1.below hb1, HS0.out.2.2.2.1.below hb1, HS0.out.2.2.2.2.below hb1⟩
          clear c0 c1 c2 c3 c4 c5 c6 c7 hb1
          obtain ⟨c0, c1⟩ := HS0.out.1.two
          obtain ⟨c2, c3⟩ := HS0.out.2.1.two
          obtain ⟨c4, c5⟩ := HS0.out.2.2.1.two
          obtain ⟨c6, c7⟩ := HS0.out.2.2.2.1.two
          go_wp2_with fail
          go_meet
          case rel => exact ⟨rfl, HS0.out⟩
  case rest =>
  obtain ⟨rfl, hS0⟩ := hcut
  replace HS0 : Hid ((fun W => Var W (w.heap.size) [.int .i64 a.x, .int .i64 a.y] ∧ Var W (w.heap.size + 1) [.int .i64 b.x, .int .i64 b.y] ∧ Var W (w.heap.size + 1 + 1) [.int .i64 c.x, .int .i64 c.y] ∧ Grew w 3 W) _) := ⟨hS0.1, hS0.2.1, hS0.2.2.1, hS0.2.2.2.2⟩
  clear hS0 M2 c0 c1 c2 c3 c4 c5 c6 c7
  obtain ⟨c0, c1⟩ := HS0.out.1.two
  obtain ⟨c2, c3⟩ := HS0.out.2.1.two
  obtain ⟨c4, c5⟩ := HS0.out.2.2.1.two
  go_wp2_with fail
  (with_reducible refine (C5.out _).mono ?_); rintro e w1 ⟨rfl, hb1⟩
  replace HS0 : Hid ((fun W => Var W (w.heap.size) [.int .i64 a.x, .int .i64 a.y] ∧ Var W (w.heap.size + 1) [.int .i64 b.x, .int .i64 b.y] ∧ Var W (w.heap.size + 1 + 1) [.int .i64 c.x, .int .i64 c.y] ∧ Grew w 3 W) w1) := ⟨HS0.out.1.below hb1, HS0.out.2.1.below hb1, HS0.out.2.2.1.below hb1, HS0.out.2.2.2.below hb1⟩
  clear c0 c1 c2 c3 c4 c5 hb1
  obtain ⟨c0, c1⟩ := HS0.out.1.two
  obtain ⟨c2, c3⟩ := HS0.out.2.1.two
  obtain ⟨c4, c5⟩ := HS0.out.2.2.1.two
  go_wp2_with fail
  (with_reducible refine (C6.out _).mono ?_); rintro e w1 ⟨rfl, hb1⟩
  replace HS0 : Hid ((fun W => Var W (w.heap.size) [.int .i64 a.x, .int .i64 a.y] ∧ Var W (w.heap.size + 1) [.int .i64 b.x, .int .i64 b.y] ∧ Var W (w.heap.size + 1 + 1) [.int .i64 c.x, .int .i64 c.y] ∧ Grew w 3 W) w1) := ⟨HS0.out.1.below hb1, HS0.out.2.1.below hb1, HS0.out.2.2.1.below hb1, HS0.out.2.2.2.below hb1⟩
  clear c0 c1 c2 c3 c4 c5 hb1
  obtain ⟨c0, c1⟩ := HS0.out.1.two
  obtain ⟨c2, c3⟩ := HS0.out.2.1.two
  obtain ⟨c4, c5⟩ := HS0.out.2.2.1.two
  go_wp2_with fail
  (with_reducible refine (C7.out _).mono ?_); rintro e w1 ⟨rfl, hb1⟩
  replace HS0 : Hid ((fun W => Var W (w.heap.size) [.int .i64 a.x, .int .i64 a.y] ∧ Var W (w.heap.size + 1) [.int .i64 b.x, .int .i64 b.y] ∧ Var W (w.heap.size + 1 + 1) [.int .i64 c.x, .int .i64 c.y] ∧ Grew w 3 W) w1) := ⟨HS0.out.1.below hb1, HS0.out.2.1.below hb1, HS0.out.2.2.1.below hb1, HS0.out.2.2.2.below hb1⟩
  clear c0 c1 c2 c3 c4 c5 hb1
  obtain ⟨c0, c1⟩ := HS0.out.1.two
  obtain ⟨c2, c3⟩ := HS0.out.2.1.two
  obtain ⟨c4, c5⟩ := HS0.out.2.2.1.two
  clear C5 C6 C7
  cases d1
  · have HG := Lib.hid HS0.out.2.2.2
    clear C8
    go_wp2_with (first
      | (go_at_call 21; (with_reducible refine (known3_l _).mono ?_); rintro e w2 ⟨rfl, hb2⟩)
      | go_in)
    go_ret
    exact ⟨rfl, (HG.out.below hb2).hb⟩
  · have hd2 : d2 = false := by have := D3.out; cases d2 <;> simp_all
    subst hd2
    rcases HV.out with rfl | rfl | rfl
    · 
      go_wp2_with fail
      (with_reducible refine (C8.out _).mono ?_); rintro e w1 ⟨rfl, hb1⟩
      replace HS0 : Hid ((fun W => Var W (w.heap.size) [.int .i64 a.x, .int .i64 a.y] ∧ Var W (w.heap.size + 1) [.int .i64 b.x, .int .i64 b.y] ∧ Var W (w.heap.size + 1 + 1) [.int .i64 c.x, .int .i64 c.y] ∧ Grew w 3 W) w1) := ⟨HS0.out.1.below hb1, HS0.out.2.1.below hb1, HS0.out.2.2.1.below hb1, HS0.out.2.2.2.below hb1⟩
      clear c0 c1 c2 c3 c4 c5 hb1
      obtain ⟨c0, c1⟩ := HS0.out.1.two
      obtain ⟨c2, c3⟩ := HS0.out.2.1.two
      obtain ⟨c4, c5⟩ := HS0.out.2.2.1.two
      have HG := Lib.hid HS0.out.2.2.2
      go_wp2_with (first
        | (go_at_call 21; (with_reducible refine (known3_l _).mono ?_); rintro e w2 ⟨rfl, hb2⟩)
        | go_in)
      go_ret
      exact ⟨rfl, (HG.out.below hb2).hb⟩
    · have HG := Lib.hid HS0.out.2.2.2
      clear C8
      go_wp2_with (first
        | (go_at_call 21; (with_reducible refine (known3_l _).mono ?_); rintro e w2 ⟨rfl, hb2⟩)
        | go_in)
      go_ret
      exact ⟨rfl, (HG.out.below hb2).hb⟩
    · 
      go_wp2_with fail
      (with_reducible refine (C8.out _).mono ?_); rintro e w1 ⟨rfl, hb1⟩
      replace HS0 : Hid ((fun W => Var W (w.heap.size) [.int .i64 a.x, .int .i64 a.y] ∧ Var W (w.heap.size + 1) [.int .i64 b.x, .int .i64 b.y] ∧ Var W (w.heap.size + 1 + 1) [.int .i64 c.x, .int .i64 c.y] ∧ Grew w 3 W) w1) := ⟨HS0.out.1.below hb1, HS0.out.2.1.below hb1, HS0.out.2.2.1.below hb1, HS0.out.2.2.2.below hb1⟩
      clear c0 c1 c2 c3 c4 c5 hb1
      obtain ⟨c0, c1⟩ := HS0.out.1.two
      obtain ⟨c2, c3⟩ := HS0.out.2.1.two
      obtain ⟨c4, c5⟩ := HS0.out.2.2.1.two
      have HG := Lib.hid HS0.out.2.2.2
      go_wp2_with (first
        | (go_at_call 21; (with_reducible refine (known3_l _).mono ?_); rintro e w2 ⟨rfl, hb2⟩)
        | go_in)
      go_ret
      exact ⟨rfl, (HG.out.below hb2).hb⟩
end Go.Proofs.Ytojfggnimmaemaa
