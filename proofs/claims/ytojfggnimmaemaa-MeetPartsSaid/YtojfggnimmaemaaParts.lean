/-
  The walk of the law MeetParts.
-/
import Derived.Test.YtojfggnimmaemaaPartsMath
import Derived.Test.YtojfggnimmaemaaMeetAll
namespace Go.Proofs.Ytojfggnimmaemaa
open Go.RowKit

set_option maxHeartbeats 8000000 in
set_option maxRecDepth 100000 in
theorem parts_l (a b m c d : Pt) (w : World) : Calls Try.prog 16 #[.agg #[.int .i64 a.x, .int .i64 a.y], .agg #[.int .i64 b.x, .int .i64 b.y], .agg #[.int .i64 m.x, .int .i64 m.y], .agg #[.int .i64 c.x, .int .i64 c.y], .agg #[.int .i64 d.x, .int .i64 d.y]] w (Gives (.bool true) w) := by
  have C0 := Lib.hid (fun W => inside_l a b m W)
  have C1 := Lib.hid (fun W => segs_l a b a m W)
  have C2 := Lib.hid (fun W => segs_l a m m b W)
  have C3 := Lib.hid (fun W => segs_l a b c d W)
  have C4 := Lib.hid (fun W => segs_l a m c d W)
  have C5 := Lib.hid (fun W => segs_l m b c d W)
  have HC : Hid (insideB a b m = true → (segsN a b a m = 4 ∧ segsE a b a m = 0) ∧ (segsN a m m b = 1 ∧ segsE a m m b = 0)) := fun h => ⟨(cut_of h).whole, (cut_of h).halves⟩
  have HP : Hid (insideB a b m = true → segsE a b c d = 0 → PartsOk (segsN a b c d) (segsN a m c d) (segsN m b c d)) := fun h k => parts_ok (cut_of h) k
  have HV := Lib.hid (segsE_vals a b c d)
  generalize insideB a b m = i at *
  generalize segsN a b a m = n1 at *
  generalize segsE a b a m = e1 at *
  generalize segsN a m m b = n2 at *
  generalize segsE a m m b = e2 at *
  generalize segsN a b c d = n at *
  generalize segsE a b c d = e0 at *
  generalize segsN a m c d = s at *
  generalize segsE a m c d = e4 at *
  generalize segsN m b c d = t at *
  generalize segsE m b c d = e5 at *
  go_enter Try.func16, Try.ntmps16
  go_upto_region 1 with (fail)
  refine wp_abs (fun W => Var W (w.heap.size) [.int .i64 a.x, .int .i64 a.y] ∧ Var W (w.heap.size + 1) [.int .i64 b.x, .int .i64 b.y] ∧ Var W (w.heap.size + 1 + 1) [.int .i64 m.x, .int .i64 m.y] ∧ Var W (w.heap.size + 1 + 1 + 1) [.int .i64 c.x, .int .i64 c.y] ∧ Var W (w.heap.size + 1 + 1 + 1 + 1) [.int .i64 d.x, .int .i64 d.y] ∧ Grew w 5 W) ?_ ?_
  · exact ⟨(var2_new _ _ _ _ _ rfl).below (bl_alloc (bl_alloc (bl_alloc (bl_one _ _) _) _) _), (var2_new _ _ _ _ _ (by simp)).below (bl_alloc (bl_alloc (bl_one _ _) _) _), (var2_new _ _ _ _ _ (by simp)).below (bl_alloc (bl_one _ _) _), (var2_new _ _ _ _ _ (by simp)).below (bl_one _ _), var2_new _ _ _ _ _ (by simp), by repeat (first | (with_reducible exact Below.refl _ _) | (with_reducible refine bl_alloc ?_ _) | (with_reducible refine Below.drew ?_) | (with_reducible refine below_drewN' ?_ _) | ((with_reducible refine bl_set ?_ ?_ _); (rotate_left; (dsimp only; omega)))), by simp⟩
  rintro W0 hS0
  have HS0 := Lib.hid hS0
  clear hS0
  obtain ⟨c0, c1⟩ := HS0.out.1.two
  obtain ⟨c2, c3⟩ := HS0.out.2.1.two
  obtain ⟨c4, c5⟩ := HS0.out.2.2.1.two
  obtain ⟨c6, c7⟩ := HS0.out.2.2.2.1.two
  obtain ⟨c8, c9⟩ := HS0.out.2.2.2.2.1.two
  go_wp2_with fail
  (with_reducible refine (C0.out _).mono ?_); rintro e w1 ⟨rfl, hb1⟩
  replace HS0 : Hid ((fun W => Var W (w.heap.size) [.int .i64 a.x, .int .i64 a.y] ∧ Var W (w.heap.size + 1) [.int .i64 b.x, .int .i64 b.y] ∧ Var W (w.heap.size + 1 + 1) [.int .i64 m.x, .int .i64 m.y] ∧ Var W (w.heap.size + 1 + 1 + 1) [.int .i64 c.x, .int .i64 c.y] ∧ Var W (w.heap.size + 1 + 1 + 1 + 1) [.int .i64 d.x, .int .i64 d.y] ∧ Grew w 5 W) w1) := ⟨HS0.out.1.below hb1, HS0.out.2.1.below hb1, HS0.out.2.2.1.below hb1, HS0.out.2.2.2.1.below hb1, HS0.out.2.2.2.2.1.below hb1, HS0.out.2.2.2.2.2.below hb1⟩
  clear c0 c1 c2 c3 c4 c5 c6 c7 c8 c9 hb1
  obtain ⟨c0, c1⟩ := HS0.out.1.two
  obtain ⟨c2, c3⟩ := HS0.out.2.1.two
  obtain ⟨c4, c5⟩ := HS0.out.2.2.1.two
  obtain ⟨c6, c7⟩ := HS0.out.2.2.2.1.two
  obtain ⟨c8, c9⟩ := HS0.out.2.2.2.2.1.two
  clear C0
  cases i
  case false =>
    clear C1 C2 C3 C4 C5 HC HP HV
    have HG := Lib.hid HS0.out.2.2.2.2.2
    go_wp2_with (first
      | (go_at_call 48; (with_reducible refine (known4_l _).mono ?_); rintro e w2 ⟨rfl, hb2⟩)
      | go_in)
    go_ret
    exact ⟨rfl, (HG.out.below hb2).hb⟩
  case true =>
  obtain ⟨⟨rfl, rfl⟩, rfl, rfl⟩ := HC.out rfl
  have HP := Lib.hid (HP.out rfl)
  clear HC
  go_wp2_with fail
  (with_reducible refine (C1.out _).mono ?_); rintro e w1 ⟨rfl, hb1⟩
  replace HS0 : Hid ((fun W => Var W (w.heap.size) [.int .i64 a.x, .int .i64 a.y] ∧ Var W (w.heap.size + 1) [.int .i64 b.x, .int .i64 b.y] ∧ Var W (w.heap.size + 1 + 1) [.int .i64 m.x, .int .i64 m.y] ∧ Var W (w.heap.size + 1 + 1 + 1) [.int .i64 c.x, .int .i64 c.y] ∧ Var W (w.heap.size + 1 + 1 + 1 + 1) [.int .i64 d.x, .int .i64 d.y] ∧ Grew w 5 W) w1) := ⟨HS0.out.1.below hb1, HS0.out.2.1.below hb1, HS0.out.2.2.1.below hb1, HS0.out.2.2.2.1.below hb1, HS0.out.2.2.2.2.1.below hb1, HS0.out.2.2.2.2.2.below hb1⟩
  clear c0 c1 c2 c3 c4 c5 c6 c7 c8 c9 hb1
  obtain ⟨c0, c1⟩ := HS0.out.1.two
  obtain ⟨c2, c3⟩ := HS0.out.2.1.two
  obtain ⟨c4, c5⟩ := HS0.out.2.2.1.two
  obtain ⟨c6, c7⟩ := HS0.out.2.2.2.1.two
  obtain ⟨c8, c9⟩ := HS0.out.2.2.2.2.1.two
  go_wp2_with fail
  (with_reducible refine (C2.out _).mono ?_); rintro e w1 ⟨rfl, hb1⟩
  replace HS0 : Hid ((fun W => Var W (w.heap.size) [.int .i64 a.x, .int .i64 a.y] ∧ Var W (w.heap.size + 1) [.int .i64 b.x, .int .i64 b.y] ∧ Var W (w.heap.size + 1 + 1) [.int .i64 m.x, .int .i64 m.y] ∧ Var W (w.heap.size + 1 + 1 + 1) [.int .i64 c.x, .int .i64 c.y] ∧ Var W (w.heap.size + 1 + 1 + 1 + 1) [.int .i64 d.x, .int .i64 d.y] ∧ Grew w 5 W) w1) := ⟨HS0.out.1.below hb1, HS0.out.2.1.below hb1, HS0.out.2.2.1.below hb1, HS0.out.2.2.2.1.below hb1, HS0.out.2.2.2.2.1.below hb1, HS0.out.2.2.2.2.2.below hb1⟩
  clear c0 c1 c2 c3 c4 c5 c6 c7 c8 c9 hb1
  obtain ⟨c0, c1⟩ := HS0.out.1.two
  obtain ⟨c2, c3⟩ := HS0.out.2.1.two
  obtain ⟨c4, c5⟩ := HS0.out.2.2.1.two
  obtain ⟨c6, c7⟩ := HS0.out.2.2.2.1.two
  obtain ⟨c8, c9⟩ := HS0.out.2.2.2.2.1.two
  go_wp2_with fail
  (with_reducible refine (C3.out _).mono ?_); rintro e w1 ⟨rfl, hb1⟩
  replace HS0 : Hid ((fun W => Var W (w.heap.size) [.int .i64 a.x, .int .i64 a.y] ∧ Var W (w.heap.size + 1) [.int .i64 b.x, .int .i64 b.y] ∧ Var W (w.heap.size + 1 + 1) [.int .i64 m.x, .int .i64 m.y] ∧ Var W (w.heap.size + 1 + 1 + 1) [.int .i64 c.x, .int .i64 c.y] ∧ Var W (w.heap.size + 1 + 1 + 1 + 1) [.int .i64 d.x, .int .i64 d.y] ∧ Grew w 5 W) w1) := ⟨HS0.out.1.below hb1, HS0.out.2.1.below hb1, HS0.out.2.2.1.below hb1, HS0.out.2.2.2.1.below hb1, HS0.out.2.2.2.2.1.below hb1, HS0.out.2.2.2.2.2.below hb1⟩
  clear c0 c1 c2 c3 c4 c5 c6 c7 c8 c9 hb1
  obtain ⟨c0, c1⟩ := HS0.out.1.two
  obtain ⟨c2, c3⟩ := HS0.out.2.1.two
  obtain ⟨c4, c5⟩ := HS0.out.2.2.1.two
  obtain ⟨c6, c7⟩ := HS0.out.2.2.2.1.two
  obtain ⟨c8, c9⟩ := HS0.out.2.2.2.2.1.two
  clear C1 C2 C3
  rcases HV.out with rfl | rfl
  case inr =>
    clear C4 C5 HP HV
    have HG := Lib.hid HS0.out.2.2.2.2.2
    go_wp2_with (first
      | (go_at_call 48; (with_reducible refine (known4_l _).mono ?_); rintro e w2 ⟨rfl, hb2⟩)
      | go_in)
    go_ret
    exact ⟨rfl, (HG.out.below hb2).hb⟩
  case inl =>
  have hP : PartsOk n s t := by have := HP.out; simpa using this
  have HQ := Lib.hid hP
  clear hP HP
  clear HV
  go_wp2_with fail
  (with_reducible refine (C4.out _).mono ?_); rintro e w1 ⟨rfl, hb1⟩
  replace HS0 : Hid ((fun W => Var W (w.heap.size) [.int .i64 a.x, .int .i64 a.y] ∧ Var W (w.heap.size + 1) [.int .i64 b.x, .int .i64 b.y] ∧ Var W (w.heap.size + 1 + 1) [.int .i64 m.x, .int .i64 m.y] ∧ Var W (w.heap.size + 1 + 1 + 1) [.int .i64 c.x, .int .i64 c.y] ∧ Var W (w.heap.size + 1 + 1 + 1 + 1) [.int .i64 d.x, .int .i64 d.y] ∧ Grew w 5 W) w1) := ⟨HS0.out.1.below hb1, HS0.out.2.1.below hb1, HS0.out.2.2.1.below hb1, HS0.out.2.2.2.1.below hb1, HS0.out.2.2.2.2.1.below hb1, HS0.out.2.2.2.2.2.below hb1⟩
  clear c0 c1 c2 c3 c4 c5 c6 c7 c8 c9 hb1
  obtain ⟨c0, c1⟩ := HS0.out.1.two
  obtain ⟨c2, c3⟩ := HS0.out.2.1.two
  obtain ⟨c4, c5⟩ := HS0.out.2.2.1.two
  obtain ⟨c6, c7⟩ := HS0.out.2.2.2.1.two
  obtain ⟨c8, c9⟩ := HS0.out.2.2.2.2.1.two
  go_wp2_with fail
  (with_reducible refine (C5.out _).mono ?_); rintro e w1 ⟨rfl, hb1⟩
  replace HS0 : Hid ((fun W => Var W (w.heap.size) [.int .i64 a.x, .int .i64 a.y] ∧ Var W (w.heap.size + 1) [.int .i64 b.x, .int .i64 b.y] ∧ Var W (w.heap.size + 1 + 1) [.int .i64 m.x, .int .i64 m.y] ∧ Var W (w.heap.size + 1 + 1 + 1) [.int .i64 c.x, .int .i64 c.y] ∧ Var W (w.heap.size + 1 + 1 + 1 + 1) [.int .i64 d.x, .int .i64 d.y] ∧ Grew w 5 W) w1) := ⟨HS0.out.1.below hb1, HS0.out.2.1.below hb1, HS0.out.2.2.1.below hb1, HS0.out.2.2.2.1.below hb1, HS0.out.2.2.2.2.1.below hb1, HS0.out.2.2.2.2.2.below hb1⟩
  clear c0 c1 c2 c3 c4 c5 c6 c7 c8 c9 hb1
  obtain ⟨c0, c1⟩ := HS0.out.1.two
  obtain ⟨c2, c3⟩ := HS0.out.2.1.two
  obtain ⟨c4, c5⟩ := HS0.out.2.2.1.two
  obtain ⟨c6, c7⟩ := HS0.out.2.2.2.1.two
  obtain ⟨c8, c9⟩ := HS0.out.2.2.2.2.1.two
  have HG := Lib.hid HS0.out.2.2.2.2.2
  clear HS0 C4 C5 c0 c1 c2 c3 c4 c5 c6 c7 c8 c9
  obtain ⟨p1, p2, p3⟩ := HQ.out
  clear HQ
  by_cases k0 : n = 0
  · obtain ⟨rfl, rfl⟩ := p1 k0
    subst k0
    clear p1 p2 p3
    go_wp2_with (first
      | (go_at_call 48; (with_reducible refine (known4_l _).mono ?_); rintro e w2 ⟨rfl, hb2⟩)
      | go_in)
    go_ret
    exact ⟨rfl, (HG.out.below hb2).hb⟩
  by_cases k3 : n = 3
  · have r2 := p2 k3
    subst k3
    clear p1 p2 p3 k0
    rcases r2 with ⟨rfl, rfl⟩ | ⟨rfl, rfl⟩ | ⟨rfl, rfl⟩
    all_goals
      go_wp2_with (first
        | (go_at_call 48; (with_reducible refine (known4_l _).mono ?_); rintro e w2 ⟨rfl, hb2⟩)
        | go_in)
      go_ret
      exact ⟨rfl, (HG.out.below hb2).hb⟩
  have r3 := p3 k0 k3
  have q1 : (n == 0) = false := by simp; omega
  have q2 : (n == 3) = false := by simp; omega
  clear p1 p2 p3 k0 k3
  by_cases ks : s = 0
  · have kt : t ≠ 0 := by omega
    have q3 : (t == 0) = false := by simp; omega
    have q4 : (t != 0) = true := by simp; omega
    subst ks
    clear r3 kt
    go_wp2_with (first
      | (go_at_call 48; (with_reducible refine (known4_l _).mono ?_); rintro e w2 ⟨rfl, hb2⟩)
      | go_in)
    go_ret
    exact ⟨rfl, (HG.out.below hb2).hb⟩
  · have q3 : (s == 0) = false := by simp; omega
    have q4 : (s != 0) = true := by simp; omega
    clear r3 ks
    go_wp2_with (first
      | (go_at_call 48; (with_reducible refine (known4_l _).mono ?_); rintro e w2 ⟨rfl, hb2⟩)
      | go_in)
    go_ret
    exact ⟨rfl, (HG.out.below hb2).hb⟩
end Go.Proofs.Ytojfggnimmaemaa
