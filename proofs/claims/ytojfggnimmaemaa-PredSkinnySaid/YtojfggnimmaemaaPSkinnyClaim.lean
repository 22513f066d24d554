/-
  Proved: for every three places the law PredSkinny returns true, and its arguments read as they did. No condition.
-/
import Derived.Test.YtojfggnimmaemaaDiscs
import Derived.Test.YtojfggnimmaemaaAreas
import Derived.Test.YtojfggnimmaemaaSkinny
import Derived.Test.YtojfggnimmaemaaRefFits
import Derived.Test.YtojfggnimmaemaaConvexes
import Derived.Test.YtojfggnimmaemaaKnown3
/-
  Contract of the document's Skinny (layer 3).
-/
namespace Go.Proofs.Ytojfggnimmaemaa
open Go.RowKit

theorem min_lt {a b : Int} (h : b < a) : minZ a b = b := by unfold minZ; rw [if_pos h]
theorem min_le {a b : Int} (h : a ≤ b) : minZ a b = a := by unfold minZ; rw [if_neg (by omega)]
theorem max_p {p q r : Int} (h1 : q ≤ p) (h2 : r ≤ p) : maxZ p (maxZ q r) = p := by unfold maxZ; (repeat' split) <;> omega
theorem max_q {p q r : Int} (h1 : p ≤ q) (h2 : r ≤ q) : maxZ p (maxZ q r) = q := by unfold maxZ; (repeat' split) <;> omega
theorem max_r {p q r : Int} (h1 : p ≤ r) (h2 : q ≤ r) : maxZ p (maxZ q r) = r := by unfold maxZ; (repeat' split) <;> omega
/-- the shortest square times the greatest product of two is the product of all -/
theorem least_most {x y z : Int} (hx : 0 < x) (hy : 0 < y) (hz : 0 < z) : x * y * z = minZ (minZ x y) z * maxZ (x * y) (maxZ (y * z) (z * x)) ∧ 0 < minZ (minZ x y) z := by
  have le : ∀ {p q r : Int}, 0 < r → p ≤ q → r * p ≤ r * q := fun hr h => Int.mul_le_mul_of_nonneg_left h (by omega)
  have h1 : minZ x y = x ∧ x ≤ y ∨ minZ x y = y ∧ y < x := by unfold minZ; split <;> omega
  rcases h1 with ⟨e1, k1⟩ | ⟨e1, k1⟩ <;> rw [e1]
  · have h2 : minZ x z = x ∧ x ≤ z ∨ minZ x z = z ∧ z < x := by unfold minZ; split <;> omega
    rcases h2 with ⟨e2, k2⟩ | ⟨e2, k2⟩ <;> rw [e2]
    · have a1 : z * x ≤ y * z := by have := le hz k1; rw [Int.mul_comm y z]; exact this
      have a2 : x * y ≤ y * z := by have := le hy k2; rw [Int.mul_comm x y]; exact this
      have := max_q a2 a1
      rw [this]; exact ⟨by grind, hx⟩
    · have a1 : z * x ≤ x * y := by have := le hx (show z ≤ y by omega); rw [Int.mul_comm z x]; exact this
      have a2 : y * z ≤ x * y := by have := le hy (show z ≤ x by omega); rw [Int.mul_comm x y]; exact this
      have := max_p a2 a1
      rw [this]; exact ⟨by grind, hz⟩
  · have h2 : minZ y z = y ∧ y ≤ z ∨ minZ y z = z ∧ z < y := by unfold minZ; split <;> omega
    rcases h2 with ⟨e2, k2⟩ | ⟨e2, k2⟩ <;> rw [e2]
    · have a1 : y * z ≤ z * x := by have := le hz (show y ≤ x by omega); rw [Int.mul_comm y z]; exact this
      have a2 : x * y ≤ z * x := by have := le hx k2; rw [Int.mul_comm z x]; exact this
      have := max_r a2 a1
      rw [this]; exact ⟨by grind, hy⟩
    · have a1 : z * x ≤ x * y := by have := le hx (show z ≤ y by omega); rw [Int.mul_comm z x]; exact this
      have a2 : y * z ≤ x * y := by have := le hy (show z ≤ x by omega); rw [Int.mul_comm x y]; exact this
      have := max_p a2 a1
      rw [this]; exact ⟨by grind, hz⟩
/-- where the three places are not on one line: all squares are above 0 -/
theorem sq_three {a b c : Pt} (h : crossZ a b c ≠ 0) : 0 < sqZ a b ∧ 0 < sqZ b c ∧ 0 < sqZ c a := by
  have pos : ∀ {p q : Pt}, p ≠ q → 0 < sqZ p q := fun {p q} hne => by
    rcases Int.lt_or_le 0 (sqZ p q) with k | k
    · exact k
    · exact absurd (sqZ_zero k) hne
  refine ⟨pos fun e => ?_, pos fun e => ?_, pos fun e => ?_⟩
  · subst e; exact h (cross_aab _ _)
  · subst e; exact h (cross_abb _ _)
  · subst e; exact h (cross_aba _ _)
theorem skinny_is {a b c : Pt} (h : crossZ a b c ≠ 0) :
    decide (0 < sg3 (sqZ a b * sqZ b c * sqZ c a - 8 * minZ (minZ (sqZ a b) (sqZ b c)) (sqZ c a) * crossZ a b c * crossZ a b c)) = decide (8 * (crossZ a b c * crossZ a b c) < maxZ (sqZ a b * sqZ b c) (maxZ (sqZ b c * sqZ c a) (sqZ c a * sqZ a b))) := by
  obtain ⟨hx, hy, hz⟩ := sq_three h
  obtain ⟨e, hl⟩ := least_most hx hy hz
  rw [e]
  generalize minZ (minZ (sqZ a b) (sqZ b c)) (sqZ c a) = l at *
  generalize maxZ (sqZ a b * sqZ b c) (maxZ (sqZ b c * sqZ c a) (sqZ c a * sqZ a b)) = m at *
  generalize crossZ a b c = t at *
  have e2 : l * m - 8 * l * t * t = l * (m - 8 * (t * t)) := by grind
  rw [e2, sg3_mul_pos _ _ hl]
  apply decide_eq_decide.2
  rcases sg3_vals (m - 8 * (t * t)) with ⟨h, e⟩ | ⟨h, e⟩ | ⟨h, e⟩ <;> rw [e] <;> omega

set_option maxHeartbeats 16000000 in
set_option maxRecDepth 100000 in
theorem refSkinny_l (a b c : Pt) (w : World) : Calls Try.prog 31 #[.agg #[.int .i64 a.x, .int .i64 a.y], .agg #[.int .i64 b.x, .int .i64 b.y], .agg #[.int .i64 c.x, .int .i64 c.y]] w (Gives (.bool (skinnyB a b c)) w) := by
  have C1 := Lib.hid (fun W => refFits3_l a W)
  have C2 := Lib.hid (fun W => refFits3_l b W)
  have C3 := Lib.hid (fun W => refFits3_l c W)
  have HP : Hid (skinnyB a b c = (fitB a && fitB b && fitB c && (decide (crossZ a b c = 0) || decide (8 * (crossZ a b c * crossZ a b c) < maxZ (sqZ a b * sqZ b c) (maxZ (sqZ b c * sqZ c a) (sqZ c a * sqZ a b)))))) := rfl
  have HF : Hid (fitB a = true → fitB b = true → fitB c = true → (Ab (sqZ a b) 147573952589676412928 ∧ Ab (sqZ b c) 147573952589676412928 ∧ Ab (sqZ c a) 147573952589676412928 ∧ Ab (crossZ a b c) 147573952589676412928) ∧
      (∀ W, Calls Try.prog 34 #[.agg #[.int .i64 a.x, .int .i64 a.y], .agg #[.int .i64 b.x, .int .i64 b.y]] W (NumP (sqZ a b) W)) ∧ (∀ W, Calls Try.prog 34 #[.agg #[.int .i64 b.x, .int .i64 b.y], .agg #[.int .i64 c.x, .int .i64 c.y]] W (NumP (sqZ b c) W)) ∧
      (∀ W, Calls Try.prog 34 #[.agg #[.int .i64 c.x, .int .i64 c.y], .agg #[.int .i64 a.x, .int .i64 a.y]] W (NumP (sqZ c a) W)) ∧ (∀ W, Calls Try.prog 35 #[.agg #[.int .i64 a.x, .int .i64 a.y], .agg #[.int .i64 b.x, .int .i64 b.y], .agg #[.int .i64 c.x, .int .i64 c.y]] W (NumP (crossZ a b c) W))) := fun fa fb fc => by
    refine ⟨⟨sqZ_b fa fb, sqZ_b fb fc, sqZ_b fc fa, cross_b fa fb fc⟩, fun W => ?_, fun W => ?_, fun W => ?_, fun W => area_n a b c (fitB_iff.1 fa).wf (fitB_iff.1 fb).wf (fitB_iff.1 fc).wf W⟩
    · have := square_n a b W; rw [sqW_is fa fb] at this; exact this
    · have := square_n b c W; rw [sqW_is fb fc] at this; exact this
    · have := square_n c a W; rw [sqW_is fc fa] at this; exact this
  have HS : Hid (crossZ a b c ≠ 0 → decide (0 < sg3 (sqZ a b * sqZ b c * sqZ c a - 8 * minZ (minZ (sqZ a b) (sqZ b c)) (sqZ c a) * crossZ a b c * crossZ a b c)) = decide (8 * (crossZ a b c * crossZ a b c) < maxZ (sqZ a b * sqZ b c) (maxZ (sqZ b c * sqZ c a) (sqZ c a * sqZ a b)))) := skinny_is
  generalize sqZ a b = zx at *
  generalize sqZ b c = zy at *
  generalize sqZ c a = zz at *
  generalize crossZ a b c = zt at *
  generalize fitB a = fa at *
  generalize fitB b = fb at *
  generalize fitB c = fc at *
  go_enter Try.func31, Try.ntmps31
  go_upto_region 1 with (fail)
  refine wp_abs (fun W => Var W (w.heap.size) [.int .i64 a.x, .int .i64 a.y] ∧ Var W (w.heap.size + 1) [.int .i64 b.x, .int .i64 b.y] ∧ Var W (w.heap.size + 1 + 1) [.int .i64 c.x, .int .i64 c.y] ∧ Grew w 3 W) ?_ ?_
  · exact ⟨(var2_new _ _ _ _ _ rfl).below (bl_alloc (bl_one _ _) _), (var2_new _ _ _ _ _ (by simp)).below (bl_one _ _), var2_new _ _ _ _ _ (by simp), by repeat (first | (with_reducible exact Below.refl _ _) | (with_reducible refine bl_alloc ?_ _) | (with_reducible refine Below.drew ?_) | (with_reducible refine below_drewN' ?_ _) | ((with_reducible refine bl_set ?_ ?_ _); (rotate_left; (dsimp only; omega)))), by simp⟩
  rintro W0 hS0
  have HS0 := Lib.hid hS0
  clear hS0
  obtain ⟨c0, c1⟩ := HS0.out.1.two
  obtain ⟨c2, c3⟩ := HS0.out.2.1.two
  obtain ⟨c4, c5⟩ := HS0.out.2.2.1.two
  go_wp2_with fail
  (with_reducible refine (C1.out _).mono ?_); rintro e w1 ⟨rfl, hb1⟩
  replace HS0 : Hid ((fun W => Var W (w.heap.size) [.int .i64 a.x, .int .i64 a.y] ∧ Var W (w.heap.size + 1) [.int .i64 b.x, .int .i64 b.y] ∧ Var W (w.heap.size + 1 + 1) [.int .i64 c.x, .int .i64 c.y] ∧ Grew w 3 W) w1) := ⟨HS0.out.1.below hb1, HS0.out.2.1.below hb1, HS0.out.2.2.1.below hb1, HS0.out.2.2.2.below hb1⟩
  clear c0 c1 c2 c3 c4 c5 hb1
  obtain ⟨c0, c1⟩ := HS0.out.1.two
  obtain ⟨c2, c3⟩ := HS0.out.2.1.two
  obtain ⟨c4, c5⟩ := HS0.out.2.2.1.two
  cases fa
  case false =>
    go_wp2
    go_ret
    exact ⟨by rw [HP.out]; simp, HS0.out.2.2.2.hb⟩
  case true =>
  go_wp2_with fail
  (with_reducible refine (C2.out _).mono ?_); rintro e w1 ⟨rfl, hb1⟩
  replace HS0 : Hid ((fun W => Var W (w.heap.size) [.int .i64 a.x, .int .i64 a.y] ∧ Var W (w.heap.size + 1) [.int .i64 b.x, .int .i64 b.y] ∧ Var W (w.heap.size + 1 + 1) [.int .i64 c.x, .int .i64 c.y] ∧ Grew w 3 W) w1) := ⟨HS0.out.1.below hb1, HS0.out.2.1.below hb1, HS0.out.2.2.1.below hb1, HS0.out.2.2.2.below hb1⟩
  clear c0 c1 c2 c3 c4 c5 hb1
  obtain ⟨c0, c1⟩ := HS0.out.1.two
  obtain ⟨c2, c3⟩ := HS0.out.2.1.two
  obtain ⟨c4, c5⟩ := HS0.out.2.2.1.two
  cases fb
  case false =>
    go_wp2
    go_ret
    exact ⟨by rw [HP.out]; simp, HS0.out.2.2.2.hb⟩
  case true =>
  go_wp2_with fail
  (with_reducible refine (C3.out _).mono ?_); rintro e w1 ⟨rfl, hb1⟩
  replace HS0 : Hid ((fun W => Var W (w.heap.size) [.int .i64 a.x, .int .i64 a.y] ∧ Var W (w.heap.size + 1) [.int .i64 b.x, .int .i64 b.y] ∧ Var W (w.heap.size + 1 + 1) [.int .i64 c.x, .int .i64 c.y] ∧ Grew w 3 W) w1) := ⟨HS0.out.1.below hb1, HS0.out.2.1.below hb1, HS0.out.2.2.1.below hb1, HS0.out.2.2.2.below hb1⟩
  clear c0 c1 c2 c3 c4 c5 hb1
  obtain ⟨c0, c1⟩ := HS0.out.1.two
  obtain ⟨c2, c3⟩ := HS0.out.2.1.two
  obtain ⟨c4, c5⟩ := HS0.out.2.2.1.two
  cases fc
  case false =>
    go_wp2
    go_ret
    exact ⟨by rw [HP.out]; simp, HS0.out.2.2.2.hb⟩
  case true =>
  obtain ⟨⟨B1, B2, B3, B4⟩, s1, s2, s3, s4⟩ := HF.out (by trivial) (by trivial) (by trivial)
  have S1 := Lib.hid s1
  have S2 := Lib.hid s2
  have S3 := Lib.hid s3
  have S4 := Lib.hid s4
  have BB := Lib.hid (And.intro (And.intro B1 B2) (And.intro B3 B4))
  clear C1 C2 C3 HF s1 s2 s3 s4 B1 B2 B3 B4 c0 c1 c2 c3 c4 c5
  go_upto_region 3 with (fail)
  go_cut [7] (fun pv W => ∃ g7 : Nat, ∃ (m7 : Bool) (ad7 : Option Addr) (n7 c7 : Nat), pv = .pointer (some ⟨g7, 0, none⟩) ∧ (w.heap.size + 3 ≤ g7) ∧ (fun W => Var W (w.heap.size) [.int .i64 a.x, .int .i64 a.y] ∧ Var W (w.heap.size + 1) [.int .i64 b.x, .int .i64 b.y] ∧ Var W (w.heap.size + 1 + 1) [.int .i64 c.x, .int .i64 c.y] ∧ Var W (g7) [.bool m7, .slice ad7 n7 c7] ∧ NumIs (.agg #[.bool m7, .slice ad7 n7 c7]) (zx) W ∧ Grew w 3 W) W)
  case first =>
    obtain ⟨c0_, d0_⟩ := HS0.out.1.two
    obtain ⟨c1_, d1_⟩ := HS0.out.2.1.two
    obtain ⟨c2_, d2_⟩ := HS0.out.2.2.1.two
    clear HP HS
    go_wp2_with fail
    (with_reducible refine (S1.out _).mono ?_); rintro e w1 ⟨v, rfl, hN, hb1⟩
    obtain ⟨m, ad, n, c, rfl⟩ := hN.shape
    have HN := Lib.hid hN
    clear hN
    go_wp2_with fail
    go_meet
    case rel => exact ⟨_, _, _, _, _, rfl, (HS0.out.2.2.2.below hb1).sz, ⟨HS0.out.1.below (bl_trans hb1 (bl_one _ _)), HS0.out.2.1.below (bl_trans hb1 (bl_one _ _)), HS0.out.2.2.1.below (bl_trans hb1 (bl_one _ _)), var2_new _ _ _ _ _ rfl, HN.out.below (bl_one _ _), HS0.out.2.2.2.below (bl_trans hb1 (bl_one _ _))⟩⟩
  case rest =>
  obtain ⟨g7, m7, ad7, n7, c7, rfl, ge7, hS0⟩ := hcut
  clear HS0
  have HS0 := Lib.hid hS0
  clear hS0
  go_upto_region 4 with (fail)
  go_cut [8] (fun pv W => ∃ g8 : Nat, ∃ (m8 : Bool) (ad8 : Option Addr) (n8 c8 : Nat), pv = .pointer (some ⟨g8, 0, none⟩) ∧ (w.heap.size + 3 ≤ g8 ∧ g7 ≠ g8) ∧ (fun W => Var W (w.heap.size) [.int .i64 a.x, .int .i64 a.y] ∧ Var W (w.heap.size + 1) [.int .i64 b.x, .int .i64 b.y] ∧ Var W (w.heap.size + 1 + 1) [.int .i64 c.x, .int .i64 c.y] ∧ Var W (g7) [.bool m7, .slice ad7 n7 c7] ∧ Var W (g8) [.bool m8, .slice ad8 n8 c8] ∧ NumIs (.agg #[.bool m7, .slice ad7 n7 c7]) (zx) W ∧ NumIs (.agg #[.bool m8, .slice ad8 n8 c8]) (zy) W ∧ Grew w 3 W) W)
  case first =>
    obtain ⟨c0_, d0_⟩ := HS0.out.1.two
    obtain ⟨c1_, d1_⟩ := HS0.out.2.1.two
    obtain ⟨c2_, d2_⟩ := HS0.out.2.2.1.two
    obtain ⟨c3_, d3_⟩ := HS0.out.2.2.2.1.two
    clear HP HS
    go_wp2_with fail
    (with_reducible refine (S2.out _).mono ?_); rintro e w1 ⟨v, rfl, hN, hb1⟩
    obtain ⟨m, ad, n, c, rfl⟩ := hN.shape
    have HN := Lib.hid hN
    clear hN
    go_wp2_with fail
    go_meet
    case rel => exact ⟨_, _, _, _, _, rfl, ⟨(HS0.out.2.2.2.2.2.below hb1).sz, Nat.ne_of_lt (HS0.out.2.2.2.1.below hb1).lt⟩, ⟨HS0.out.1.below (bl_trans hb1 (bl_one _ _)), HS0.out.2.1.below (bl_trans hb1 (bl_one _ _)), HS0.out.2.2.1.below (bl_trans hb1 (bl_one _ _)), HS0.out.2.2.2.1.below (bl_trans hb1 (bl_one _ _)), var2_new _ _ _ _ _ rfl, HS0.out.2.2.2.2.1.below (bl_trans hb1 (bl_one _ _)), HN.out.below (bl_one _ _), HS0.out.2.2.2.2.2.below (bl_trans hb1 (bl_one _ _))⟩⟩
  case rest =>
  obtain ⟨g8, m8, ad8, n8, c8, rfl, ⟨ge8, ne7_8⟩, hS0⟩ := hcut
  clear HS0
  have HS0 := Lib.hid hS0
  clear hS0
  go_upto_region 5 with (fail)
  go_cut [9] (fun pv W => ∃ g9 : Nat, ∃ (m9 : Bool) (ad9 : Option Addr) (n9 c9 : Nat), pv = .pointer (some ⟨g9, 0, none⟩) ∧ (w.heap.size + 3 ≤ g9 ∧ g7 ≠ g9 ∧ g8 ≠ g9) ∧ (fun W => Var W (w.heap.size) [.int .i64 a.x, .int .i64 a.y] ∧ Var W (w.heap.size + 1) [.int .i64 b.x, .int .i64 b.y] ∧ Var W (w.heap.size + 1 + 1) [.int .i64 c.x, .int .i64 c.y] ∧ Var W (g7) [.bool m7, .slice ad7 n7 c7] ∧ Var W (g8) [.bool m8, .slice ad8 n8 c8] ∧ Var W (g9) [.bool m9, .slice ad9 n9 c9] ∧ NumIs (.agg #[.bool m7, .slice ad7 n7 c7]) (zx) W ∧ NumIs (.agg #[.bool m8, .slice ad8 n8 c8]) (zy) W ∧ NumIs (.agg #[.bool m9, .slice ad9 n9 c9]) (zz) W ∧ Grew w 3 W) W)
  case first =>
    obtain ⟨c0_, d0_⟩ := HS0.out.1.two
    obtain ⟨c1_, d1_⟩ := HS0.out.2.1.two
    obtain ⟨c2_, d2_⟩ := HS0.out.2.2.1.two
    obtain ⟨c3_, d3_⟩ := HS0.out.2.2.2.1.two
    obtain ⟨c4_, d4_⟩ := HS0.out.2.2.2.2.1.two
    clear HP HS
    go_wp2_with fail
    (with_reducible refine (S3.out _).mono ?_); rintro e w1 ⟨v, rfl, hN, hb1⟩
    obtain ⟨m, ad, n, c, rfl⟩ := hN.shape
    have HN := Lib.hid hN
    clear hN
    go_wp2_with fail
    go_meet
    case rel => exact ⟨_, _, _, _, _, rfl, ⟨(HS0.out.2.2.2.2.2.2.2.below hb1).sz, Nat.ne_of_lt (HS0.out.2.2.2.1.below hb1).lt, Nat.ne_of_lt (HS0.out.2.2.2.2.1.below hb1).lt⟩, ⟨HS0.out.1.below (bl_trans hb1 (bl_one _ _)), HS0.out.2.1.below (bl_trans hb1 (bl_one _ _)), HS0.out.2.2.1.below (bl_trans hb1 (bl_one _ _)), HS0.out.2.2.2.1.below (bl_trans hb1 (bl_one _ _)), HS0.out.2.2.2.2.1.below (bl_trans hb1 (bl_one _ _)), var2_new _ _ _ _ _ rfl, HS0.out.2.2.2.2.2.1.below (bl_trans hb1 (bl_one _ _)), HS0.out.2.2.2.2.2.2.1.below (bl_trans hb1 (bl_one _ _)), HN.out.below (bl_one _ _), HS0.out.2.2.2.2.2.2.2.below (bl_trans hb1 (bl_one _ _))⟩⟩
  case rest =>
  obtain ⟨g9, m9, ad9, n9, c9, rfl, ⟨ge9, ne7_9, ne8_9⟩, hS0⟩ := hcut
  clear HS0
  have HS0 := Lib.hid hS0
  clear hS0
  go_upto_region 6 with (fail)
  go_cut [10] (fun pv W => ∃ g10 : Nat, ∃ (m10 : Bool) (ad10 : Option Addr) (n10 c10 : Nat), pv = .pointer (some ⟨g10, 0, none⟩) ∧ (w.heap.size + 3 ≤ g10 ∧ g7 ≠ g10 ∧ g8 ≠ g10 ∧ g9 ≠ g10) ∧ (fun W => Var W (w.heap.size) [.int .i64 a.x, .int .i64 a.y] ∧ Var W (w.heap.size + 1) [.int .i64 b.x, .int .i64 b.y] ∧ Var W (w.heap.size + 1 + 1) [.int .i64 c.x, .int .i64 c.y] ∧ Var W (g7) [.bool m7, .slice ad7 n7 c7] ∧ Var W (g8) [.bool m8, .slice ad8 n8 c8] ∧ Var W (g9) [.bool m9, .slice ad9 n9 c9] ∧ Var W (g10) [.bool m10, .slice ad10 n10 c10] ∧ NumIs (.agg #[.bool m7, .slice ad7 n7 c7]) (zx) W ∧ NumIs (.agg #[.bool m8, .slice ad8 n8 c8]) (zy) W ∧ NumIs (.agg #[.bool m9, .slice ad9 n9 c9]) (zz) W ∧ NumIs (.agg #[.bool m10, .slice ad10 n10 c10]) (zx) W ∧ Grew w 3 W) W)
  case first =>
    obtain ⟨c0_, d0_⟩ := HS0.out.1.two
    obtain ⟨c1_, d1_⟩ := HS0.out.2.1.two
    obtain ⟨c2_, d2_⟩ := HS0.out.2.2.1.two
    obtain ⟨c3_, d3_⟩ := HS0.out.2.2.2.1.two
    obtain ⟨c4_, d4_⟩ := HS0.out.2.2.2.2.1.two
    obtain ⟨c5_, d5_⟩ := HS0.out.2.2.2.2.2.1.two
    clear HP HS
    go_wp2_with fail
    go_meet
    case rel => exact ⟨_, _, _, _, _, rfl, ⟨HS0.out.2.2.2.2.2.2.2.2.2.sz, Nat.ne_of_lt HS0.out.2.2.2.1.lt, Nat.ne_of_lt HS0.out.2.2.2.2.1.lt, Nat.ne_of_lt HS0.out.2.2.2.2.2.1.lt⟩, ⟨HS0.out.1.below (bl_one _ _), HS0.out.2.1.below (bl_one _ _), HS0.out.2.2.1.below (bl_one _ _), HS0.out.2.2.2.1.below (bl_one _ _), HS0.out.2.2.2.2.1.below (bl_one _ _), HS0.out.2.2.2.2.2.1.below (bl_one _ _), var2_new _ _ _ _ _ rfl, HS0.out.2.2.2.2.2.2.1.below (bl_one _ _), HS0.out.2.2.2.2.2.2.2.1.below (bl_one _ _), HS0.out.2.2.2.2.2.2.2.2.1.below (bl_one _ _), HS0.out.2.2.2.2.2.2.1.below (bl_one _ _), HS0.out.2.2.2.2.2.2.2.2.2.below (bl_one _ _)⟩⟩
  case rest =>
  obtain ⟨g10, m10, ad10, n10, c10, rfl, ⟨ge10, ne7_10, ne8_10, ne9_10⟩, hS0⟩ := hcut
  clear HS0
  have HS0 := Lib.hid hS0
  clear hS0
  clear S1 S2 S3
  have BIGx := Lib.hid (BB.out.1.1.big (by decide))
  have BIGy := Lib.hid (BB.out.1.2.big (by decide))
  have BIGz := Lib.hid (BB.out.2.1.big (by decide))
  go_upto_region 7 with (fail)
  obtain ⟨c0_, d0_⟩ := HS0.out.1.two
  obtain ⟨c1_, d1_⟩ := HS0.out.2.1.two
  obtain ⟨c2_, d2_⟩ := HS0.out.2.2.1.two
  obtain ⟨c3_, d3_⟩ := HS0.out.2.2.2.1.two
  obtain ⟨c4_, d4_⟩ := HS0.out.2.2.2.2.1.two
  obtain ⟨c5_, d5_⟩ := HS0.out.2.2.2.2.2.1.two
  obtain ⟨c6_, d6_⟩ := HS0.out.2.2.2.2.2.2.1.two
  go_wp2_with fail
  (with_reducible refine (cmp_n _ _ (zy) (zx) BIGy.out BIGx.out _ HS0.out.2.2.2.2.2.2.2.2.1 HS0.out.2.2.2.2.2.2.2.2.2.2.1).mono ?_); rintro e w1 ⟨rfl, hb1⟩
  replace HS0 : Hid ((fun W => Var W (w.heap.size) [.int .i64 a.x, .int .i64 a.y] ∧ Var W (w.heap.size + 1) [.int .i64 b.x, .int .i64 b.y] ∧ Var W (w.heap.size + 1 + 1) [.int .i64 c.x, .int .i64 c.y] ∧ Var W (g7) [.bool m7, .slice ad7 n7 c7] ∧ Var W (g8) [.bool m8, .slice ad8 n8 c8] ∧ Var W (g9) [.bool m9, .slice ad9 n9 c9] ∧ Var W (g10) [.bool m10, .slice ad10 n10 c10] ∧ NumIs (.agg #[.bool m7, .slice ad7 n7 c7]) (zx) W ∧ NumIs (.agg #[.bool m8, .slice ad8 n8 c8]) (zy) W ∧ NumIs (.agg #[.bool m9, .slice ad9 n9 c9]) (zz) W ∧ NumIs (.agg #[.bool m10, .slice ad10 n10 c10]) (zx) W ∧ Grew w 3 W) w1) := ⟨HS0.out.1.below hb1, HS0.out.2.1.below hb1, HS0.out.2.2.1.below hb1, HS0.out.2.2.2.1.below hb1, HS0.out.2.2.2.2.1.below hb1, HS0.out.2.2.2.2.2.1.below hb1, HS0.out.2.2.2.2.2.2.1.below hb1, HS0.out.2.2.2.2.2.2.2.1.below hb1, HS0.out.2.2.2.2.2.2.2.2.1.below hb1, HS0.out.2.2.2.2.2.2.2.2.2.1.below hb1, HS0.out.2.2.2.2.2.2.2.2.2.2.1.below hb1, HS0.out.2.2.2.2.2.2.2.2.2.2.2.below hb1⟩
  clear c0_ d0_ c1_ d1_ c2_ d2_ c3_ d3_ c4_ d4_ c5_ d5_ c6_ d6_ hb1
  go_upto_if 38 with (fail)
  go_cut [10] (fun pv W => pv = .pointer (some ⟨g10, 0, none⟩) ∧ ∃ (m10 : Bool) (ad10 : Option Addr) (n10 c10 : Nat), (fun W => Var W (w.heap.size) [.int .i64 a.x, .int .i64 a.y] ∧ Var W (w.heap.size + 1) [.int .i64 b.x, .int .i64 b.y] ∧ Var W (w.heap.size + 1 + 1) [.int .i64 c.x, .int .i64 c.y] ∧ Var W (g7) [.bool m7, .slice ad7 n7 c7] ∧ Var W (g8) [.bool m8, .slice ad8 n8 c8] ∧ Var W (g9) [.bool m9, .slice ad9 n9 c9] ∧ Var W (g10) [.bool m10, .slice ad10 n10 c10] ∧ NumIs (.agg #[.bool m7, .slice ad7 n7 c7]) (zx) W ∧ NumIs (.agg #[.bool m8, .slice ad8 n8 c8]) (zy) W ∧ NumIs (.agg #[.bool m9, .slice ad9 n9 c9]) (zz) W ∧ NumIs (.agg #[.bool m10, .slice ad10 n10 c10]) (minZ (zx) (zy)) W ∧ Grew w 3 W) W)
  case first =>
    clear HP HS
    obtain ⟨c0_, d0_⟩ := HS0.out.1.two
    obtain ⟨c1_, d1_⟩ := HS0.out.2.1.two
    obtain ⟨c2_, d2_⟩ := HS0.out.2.2.1.two
    obtain ⟨c3_, d3_⟩ := HS0.out.2.2.2.1.two
    obtain ⟨c4_, d4_⟩ := HS0.out.2.2.2.2.1.two
    obtain ⟨c5_, d5_⟩ := HS0.out.2.2.2.2.2.1.two
    obtain ⟨c6_, d6_⟩ := HS0.out.2.2.2.2.2.2.1.two
    obtain ⟨f0, f1⟩ := HS0.out.2.2.2.2.2.2.1.free2
    rcases Int.lt_or_le (zy) (zx) with hlt | hlt
    · have hs := sg3_lt (show zy - zx < 0 by omega)
      have HM := Lib.hid (show minZ (zx) (zy) = zy from min_lt hlt)
      rw [hs]
      clear hs hlt
      go_wp2_with fail
      go_meet
      case rel =>
        rw [HM.out]
        have v10 := HS0.out.2.2.2.2.2.2.1
        refine ⟨rfl, m8, ad8, n8, c8, ?_, ?_, ?_, ?_, ?_, ?_, ?_, ?_, ?_, ?_, ?_, ?_⟩
        · exact (HS0.out.1.far (by dsimp only; omega) _).far (by dsimp only; omega) _
        · exact (HS0.out.2.1.far (by dsimp only; omega) _).far (by dsimp only; omega) _
        · exact (HS0.out.2.2.1.far (by dsimp only; omega) _).far (by dsimp only; omega) _
        · exact (HS0.out.2.2.2.1.far (by dsimp only; omega) _).far (by dsimp only; omega) _
        · exact (HS0.out.2.2.2.2.1.far (by dsimp only; omega) _).far (by dsimp only; omega) _
        · exact (HS0.out.2.2.2.2.2.1.far (by dsimp only; omega) _).far (by dsimp only; omega) _
        · exact v10.set2 _ _
        · exact HS0.out.2.2.2.2.2.2.2.1.res v10 _ _
        · exact HS0.out.2.2.2.2.2.2.2.2.1.res v10 _ _
        · exact HS0.out.2.2.2.2.2.2.2.2.2.1.res v10 _ _
        · exact HS0.out.2.2.2.2.2.2.2.2.1.res v10 _ _
        · exact (HS0.out.2.2.2.2.2.2.2.2.2.2.2.set (by dsimp only; omega) _).set (by dsimp only; omega) _
    · have hs : sg3 (zy - (zx)) = 0 ∨ sg3 (zy - (zx)) = 1 := by rcases sg3_vals (zy - (zx)) with ⟨h, e⟩ | ⟨h, e⟩ | ⟨h, e⟩ <;> omega
      have HM := Lib.hid (show minZ (zx) (zy) = zx from min_le hlt)
      generalize sg3 (zy - (zx)) = s at *
      clear hlt
      rcases hs with rfl | rfl
      all_goals
        go_wp2_with fail
        go_meet
        case rel => exact ⟨rfl, _, _, _, _, by rw [HM.out]; exact HS0.out⟩
  case rest =>
  obtain ⟨rfl, m10, ad10, n10, c10, hS0⟩ := hcut
  clear HS0
  have HS0 := Lib.hid hS0
  clear hS0
  have BL1 : Ab (minZ zx zy) 147573952589676412928 := by have h1 := BB.out.1.1; have h2 := BB.out.1.2; unfold minZ; split <;> assumption
  have BIGl := Lib.hid (BL1.big (by decide))
  go_upto_region 9 with (fail)
  obtain ⟨c0_, d0_⟩ := HS0.out.1.two
  obtain ⟨c1_, d1_⟩ := HS0.out.2.1.two
  obtain ⟨c2_, d2_⟩ := HS0.out.2.2.1.two
  obtain ⟨c3_, d3_⟩ := HS0.out.2.2.2.1.two
  obtain ⟨c4_, d4_⟩ := HS0.out.2.2.2.2.1.two
  obtain ⟨c5_, d5_⟩ := HS0.out.2.2.2.2.2.1.two
  obtain ⟨c6_, d6_⟩ := HS0.out.2.2.2.2.2.2.1.two
  go_wp2_with fail
  (with_reducible refine (cmp_n _ _ (zz) (minZ zx zy) BIGz.out BIGl.out _ HS0.out.2.2.2.2.2.2.2.2.2.1 HS0.out.2.2.2.2.2.2.2.2.2.2.1).mono ?_); rintro e w1 ⟨rfl, hb1⟩
  replace HS0 : Hid ((fun W => Var W (w.heap.size) [.int .i64 a.x, .int .i64 a.y] ∧ Var W (w.heap.size + 1) [.int .i64 b.x, .int .i64 b.y] ∧ Var W (w.heap.size + 1 + 1) [.int .i64 c.x, .int .i64 c.y] ∧ Var W (g7) [.bool m7, .slice ad7 n7 c7] ∧ Var W (g8) [.bool m8, .slice ad8 n8 c8] ∧ Var W (g9) [.bool m9, .slice ad9 n9 c9] ∧ Var W (g10) [.bool m10, .slice ad10 n10 c10] ∧ NumIs (.agg #[.bool m7, .slice ad7 n7 c7]) (zx) W ∧ NumIs (.agg #[.bool m8, .slice ad8 n8 c8]) (zy) W ∧ NumIs (.agg #[.bool m9, .slice ad9 n9 c9]) (zz) W ∧ NumIs (.agg #[.bool m10, .slice ad10 n10 c10]) (minZ (zx) (zy)) W ∧ Grew w 3 W) w1) := ⟨HS0.out.1.below hb1, HS0.out.2.1.below hb1, HS0.out.2.2.1.below hb1, HS0.out.2.2.2.1.below hb1, HS0.out.2.2.2.2.1.below hb1, HS0.out.2.2.2.2.2.1.below hb1, HS0.out.2.2.2.2.2.2.1.below hb1, HS0.out.2.2.2.2.2.2.2.1.below hb1, HS0.out.2.2.2.2.2.2.2.2.1.below hb1, HS0.out.2.2.2.2.2.2.2.2.2.1.below hb1, HS0.out.2.2.2.2.2.2.2.2.2.2.1.below hb1, HS0.out.2.2.2.2.2.2.2.2.2.2.2.below hb1⟩
  clear c0_ d0_ c1_ d1_ c2_ d2_ c3_ d3_ c4_ d4_ c5_ d5_ c6_ d6_ hb1
  go_upto_if 43 with (fail)
  go_cut [10] (fun pv W => pv = .pointer (some ⟨g10, 0, none⟩) ∧ ∃ (m10 : Bool) (ad10 : Option Addr) (n10 c10 : Nat), (fun W => Var W (w.heap.size) [.int .i64 a.x, .int .i64 a.y] ∧ Var W (w.heap.size + 1) [.int .i64 b.x, .int .i64 b.y] ∧ Var W (w.heap.size + 1 + 1) [.int .i64 c.x, .int .i64 c.y] ∧ Var W (g7) [.bool m7, .slice ad7 n7 c7] ∧ Var W (g8) [.bool m8, .slice ad8 n8 c8] ∧ Var W (g9) [.bool m9, .slice ad9 n9 c9] ∧ Var W (g10) [.bool m10, .slice ad10 n10 c10] ∧ NumIs (.agg #[.bool m7, .slice ad7 n7 c7]) (zx) W ∧ NumIs (.agg #[.bool m8, .slice ad8 n8 c8]) (zy) W ∧ NumIs (.agg #[.bool m9, .slice ad9 n9 c9]) (zz) W ∧ NumIs (.agg #[.bool m10, .slice ad10 n10 c10]) (minZ (minZ zx zy) (zz)) W ∧ Grew w 3 W) W)
  case first =>
    clear HP HS
    obtain ⟨c0_, d0_⟩ := HS0.out.1.two
    obtain ⟨c1_, d1_⟩ := HS0.out.2.1.two
    obtain ⟨c2_, d2_⟩ := HS0.out.2.2.1.two
    obtain ⟨c3_, d3_⟩ := HS0.out.2.2.2.1.two
    obtain ⟨c4_, d4_⟩ := HS0.out.2.2.2.2.1.two
    obtain ⟨c5_, d5_⟩ := HS0.out.2.2.2.2.2.1.two
    obtain ⟨c6_, d6_⟩ := HS0.out.2.2.2.2.2.2.1.two
    obtain ⟨f0, f1⟩ := HS0.out.2.2.2.2.2.2.1.free2
    rcases Int.lt_or_le (zz) (minZ zx zy) with hlt | hlt
    · have hs := sg3_lt (show zz - minZ zx zy < 0 by omega)
      have HM := Lib.hid (show minZ (minZ zx zy) (zz) = zz from min_lt hlt)
      rw [hs]
      clear hs hlt
      go_wp2_with fail
      go_meet
      case rel =>
        rw [HM.out]
        have v10 := HS0.out.2.2.2.2.2.2.1
        refine ⟨rfl, m9, ad9, n9, c9, ?_, ?_, ?_, ?_, ?_, ?_, ?_, ?_, ?_, ?_, ?_, ?_⟩
        · exact (HS0.out.1.far (by dsimp only; omega) _).far (by dsimp only; omega) _
        · exact (HS0.out.2.1.far (by dsimp only; omega) _).far (by dsimp only; omega) _
        · exact (HS0.out.2.2.1.far (by dsimp only; omega) _).far (by dsimp only; omega) _
        · exact (HS0.out.2.2.2.1.far (by dsimp only; omega) _).far (by dsimp only; omega) _
        · exact (HS0.out.2.2.2.2.1.far (by dsimp only; omega) _).far (by dsimp only; omega) _
        · exact (HS0.out.2.2.2.2.2.1.far (by dsimp only; omega) _).far (by dsimp only; omega) _
        · exact v10.set2 _ _
        · exact HS0.out.2.2.2.2.2.2.2.1.res v10 _ _
        · exact HS0.out.2.2.2.2.2.2.2.2.1.res v10 _ _
        · exact HS0.out.2.2.2.2.2.2.2.2.2.1.res v10 _ _
        · exact HS0.out.2.2.2.2.2.2.2.2.2.1.res v10 _ _
        · exact (HS0.out.2.2.2.2.2.2.2.2.2.2.2.set (by dsimp only; omega) _).set (by dsimp only; omega) _
    · have hs : sg3 (zz - (minZ zx zy)) = 0 ∨ sg3 (zz - (minZ zx zy)) = 1 := by rcases sg3_vals (zz - (minZ zx zy)) with ⟨h, e⟩ | ⟨h, e⟩ | ⟨h, e⟩ <;> omega
      have HM := Lib.hid (show minZ (minZ zx zy) (zz) = minZ zx zy from min_le hlt)
      generalize sg3 (zz - (minZ zx zy)) = s at *
      clear hlt
      rcases hs with rfl | rfl
      all_goals
        go_wp2_with fail
        go_meet
        case rel => exact ⟨rfl, _, _, _, _, by rw [HM.out]; exact HS0.out⟩
  case rest =>
  obtain ⟨rfl, m10, ad10, n10, c10, hS0⟩ := hcut
  clear HS0
  have HS0 := Lib.hid hS0
  clear hS0
  have BL : Ab (minZ (minZ zx zy) zz) 147573952589676412928 := by have h1 := BL1; have h2 := BB.out.2.1; generalize minZ zx zy = q at *; unfold minZ; split <;> assumption
  clear BL1 BIGl
  go_upto_region 11 with (fail)
  go_cut [11] (fun pv W => ∃ g11 : Nat, ∃ (m11 : Bool) (ad11 : Option Addr) (n11 c11 : Nat), pv = .pointer (some ⟨g11, 0, none⟩) ∧ (w.heap.size + 3 ≤ g11 ∧ g7 ≠ g11 ∧ g8 ≠ g11 ∧ g9 ≠ g11 ∧ g10 ≠ g11) ∧ (fun W => Var W (w.heap.size) [.int .i64 a.x, .int .i64 a.y] ∧ Var W (w.heap.size + 1) [.int .i64 b.x, .int .i64 b.y] ∧ Var W (w.heap.size + 1 + 1) [.int .i64 c.x, .int .i64 c.y] ∧ Var W (g7) [.bool m7, .slice ad7 n7 c7] ∧ Var W (g8) [.bool m8, .slice ad8 n8 c8] ∧ Var W (g9) [.bool m9, .slice ad9 n9 c9] ∧ Var W (g10) [.bool m10, .slice ad10 n10 c10] ∧ Var W (g11) [.bool m11, .slice ad11 n11 c11] ∧ NumIs (.agg #[.bool m7, .slice ad7 n7 c7]) (zx) W ∧ NumIs (.agg #[.bool m8, .slice ad8 n8 c8]) (zy) W ∧ NumIs (.agg #[.bool m9, .slice ad9 n9 c9]) (zz) W ∧ NumIs (.agg #[.bool m10, .slice ad10 n10 c10]) (minZ (minZ zx zy) (zz)) W ∧ NumIs (.agg #[.bool m11, .slice ad11 n11 c11]) (zt) W ∧ Grew w 3 W) W)
  case first =>
    obtain ⟨c0_, d0_⟩ := HS0.out.1.two
    obtain ⟨c1_, d1_⟩ := HS0.out.2.1.two
    obtain ⟨c2_, d2_⟩ := HS0.out.2.2.1.two
    obtain ⟨c3_, d3_⟩ := HS0.out.2.2.2.1.two
    obtain ⟨c4_, d4_⟩ := HS0.out.2.2.2.2.1.two
    obtain ⟨c5_, d5_⟩ := HS0.out.2.2.2.2.2.1.two
    obtain ⟨c6_, d6_⟩ := HS0.out.2.2.2.2.2.2.1.two
    clear HP HS
    go_wp2_with fail
    (with_reducible refine (S4.out _).mono ?_); rintro e w1 ⟨v, rfl, hN, hb1⟩
    obtain ⟨m, ad, n, c, rfl⟩ := hN.shape
    have HN := Lib.hid hN
    clear hN
    go_wp2_with fail
    go_meet
    case rel => exact ⟨_, _, _, _, _, rfl, ⟨(HS0.out.2.2.2.2.2.2.2.2.2.2.2.below hb1).sz, Nat.ne_of_lt (HS0.out.2.2.2.1.below hb1).lt, Nat.ne_of_lt (HS0.out.2.2.2.2.1.below hb1).lt, Nat.ne_of_lt (HS0.out.2.2.2.2.2.1.below hb1).lt, Nat.ne_of_lt (HS0.out.2.2.2.2.2.2.1.below hb1).lt⟩, ⟨HS0.out.1.below (bl_trans hb1 (bl_one _ _)), HS0.out.2.1.below (bl_trans hb1 (bl_one _ _)), HS0.out.2.2.1.below (bl_trans hb1 (bl_one _ _)), HS0.out.2.2.2.1.below (bl_trans hb1 (bl_one _ _)), HS0.out.2.2.2.2.1.below (bl_trans hb1 (bl_one _ _)), HS0.out.2.2.2.2.2.1.below (bl_trans hb1 (bl_one _ _)), HS0.out.2.2.2.2.2.2.1.below (bl_trans hb1 (bl_one _ _)), var2_new _ _ _ _ _ rfl, HS0.out.2.2.2.2.2.2.2.1.below (bl_trans hb1 (bl_one _ _)), HS0.out.2.2.2.2.2.2.2.2.1.below (bl_trans hb1 (bl_one _ _)), HS0.out.2.2.2.2.2.2.2.2.2.1.below (bl_trans hb1 (bl_one _ _)), HS0.out.2.2.2.2.2.2.2.2.2.2.1.below (bl_trans hb1 (bl_one _ _)), HN.out.below (bl_one _ _), HS0.out.2.2.2.2.2.2.2.2.2.2.2.below (bl_trans hb1 (bl_one _ _))⟩⟩
  case rest =>
  obtain ⟨g11, m11, ad11, n11, c11, rfl, ⟨ge11, ne7_11, ne8_11, ne9_11, ne10_11⟩, hS0⟩ := hcut
  clear HS0
  have HS0 := Lib.hid hS0
  clear hS0
  clear S4
  generalize hl : minZ (minZ zx zy) zz = zl at *
  have HS3 : Hid ((fun W => Var W (g7) [.bool m7, .slice ad7 n7 c7] ∧ Var W (g8) [.bool m8, .slice ad8 n8 c8] ∧ Var W (g9) [.bool m9, .slice ad9 n9 c9] ∧ Var W (g10) [.bool m10, .slice ad10 n10 c10] ∧ Var W (g11) [.bool m11, .slice ad11 n11 c11] ∧ NumIs (.agg #[.bool m7, .slice ad7 n7 c7]) (zx) W ∧ NumIs (.agg #[.bool m8, .slice ad8 n8 c8]) (zy) W ∧ NumIs (.agg #[.bool m9, .slice ad9 n9 c9]) (zz) W ∧ NumIs (.agg #[.bool m10, .slice ad10 n10 c10]) (zl) W ∧ NumIs (.agg #[.bool m11, .slice ad11 n11 c11]) (zt) W ∧ Grew w 3 W) _) := ⟨HS0.out.2.2.2.1, HS0.out.2.2.2.2.1, HS0.out.2.2.2.2.2.1, HS0.out.2.2.2.2.2.2.1, HS0.out.2.2.2.2.2.2.2.1, HS0.out.2.2.2.2.2.2.2.2.1, HS0.out.2.2.2.2.2.2.2.2.2.1, HS0.out.2.2.2.2.2.2.2.2.2.2.1, HS0.out.2.2.2.2.2.2.2.2.2.2.2.1, HS0.out.2.2.2.2.2.2.2.2.2.2.2.2.1, HS0.out.2.2.2.2.2.2.2.2.2.2.2.2.2⟩
  clear HS0
  have Bt := Lib.hid (BB.out.2.2.big (by decide))
  have Bl := Lib.hid (BL.big (by decide))
  have Bxy := Lib.hid ((BB.out.1.1.mul BB.out.1.2).big (by decide))
  have Bxyz := Lib.hid (((BB.out.1.1.mul BB.out.1.2).mul BB.out.2.1).big (by decide))
  have h8 : Ab 8 8 := by unfold Ab; omega
  have B8 := Lib.hid (h8.big (by decide))
  have B8l := Lib.hid ((h8.mul BL).big (by decide))
  have B8t := Lib.hid (((h8.mul BL).mul BB.out.2.2).big (by decide))
  have B8tt := Lib.hid ((((h8.mul BL).mul BB.out.2.2).mul BB.out.2.2).big (by decide))
  have R8 : Hid (R64 8) := by unfold Hid R64; omega
  clear h8 BL BB
  go_upto_region 12 with (fail)
  by_cases h0 : zt = 0
  · have hst : sg3 zt = 0 := sg3_eq h0
    have HZ : Hid (skinnyB a b c = true) := by unfold Hid; rw [HP.out, decide_eq_true h0]; simp
    clear h0 HP HS
    refine wp_region_held_drew (S := fun W => Var W (g7) [.bool m7, .slice ad7 n7 c7] ∧ Var W (g8) [.bool m8, .slice ad8 n8 c8] ∧ Var W (g9) [.bool m9, .slice ad9 n9 c9] ∧ Var W (g10) [.bool m10, .slice ad10 n10 c10] ∧ Var W (g11) [.bool m11, .slice ad11 n11 c11] ∧ NumIs (.agg #[.bool m7, .slice ad7 n7 c7]) (zx) W ∧ NumIs (.agg #[.bool m8, .slice ad8 n8 c8]) (zy) W ∧ NumIs (.agg #[.bool m9, .slice ad9 n9 c9]) (zz) W ∧ NumIs (.agg #[.bool m10, .slice ad10 n10 c10]) (zl) W ∧ NumIs (.agg #[.bool m11, .slice ad11 n11 c11]) (zt) W ∧ Grew w 3 W) (by kernel_rfl) ?_ (fun q1 => ?_)
    · exact ⟨HS3.out.1.below (bel_drew _), HS3.out.2.1.below (bel_drew _), HS3.out.2.2.1.below (bel_drew _), HS3.out.2.2.2.1.below (bel_drew _), HS3.out.2.2.2.2.1.below (bel_drew _), HS3.out.2.2.2.2.2.1.below (bel_drew _), HS3.out.2.2.2.2.2.2.1.below (bel_drew _), HS3.out.2.2.2.2.2.2.2.1.below (bel_drew _), HS3.out.2.2.2.2.2.2.2.2.1.below (bel_drew _), HS3.out.2.2.2.2.2.2.2.2.2.1.below (bel_drew _), HS3.out.2.2.2.2.2.2.2.2.2.2.below (bel_drew _)⟩
    revert q1
    generalize World.drew _ = W1
    intro q1 
    refine tk (i := 0) (v := ?_) rfl (Or.inl ⟨by rfl, ?_⟩) ?_
    rotate_left
    · intro Wq hSw
      obtain ⟨k0, k1⟩ := (id hSw).2.2.2.2.1.two
      clear hSw
      go_simp
      all_goals (with_reducible rfl)
    try simp only [Act.put, x2, x4, x5, x6, x7]
    refine wpAnyH_ready (rs := [1]) (by kernel_rfl) (by simp) ?_
    refine (AllReadyH.cons rfl (fun K hK => ?_) AllReadyH.nil)
    rw [if_pos (by rfl)]
    go_simp
    go_at_call 58
    (with_reducible refine (sign_num _ _ _ (id q1).2.2.2.2.2.2.2.2.2.1).mono ?_)
    rintro e w1 ⟨rfl, hb1⟩
    have hsg : sgZ zt = sg3 zt := rfl
    rw [hsg, hst]
    clear hsg
    go_wp2_with fail
    refine hK.out _ _ ?_ (fun q2 => ?_)
    · exact ⟨(id q1).1.below hb1, (id q1).2.1.below hb1, (id q1).2.2.1.below hb1, (id q1).2.2.2.1.below hb1, (id q1).2.2.2.2.1.below hb1, (id q1).2.2.2.2.2.1.below hb1, (id q1).2.2.2.2.2.2.1.below hb1, (id q1).2.2.2.2.2.2.2.1.below hb1, (id q1).2.2.2.2.2.2.2.2.1.below hb1, (id q1).2.2.2.2.2.2.2.2.2.1.below hb1, (id q1).2.2.2.2.2.2.2.2.2.2.below hb1⟩
    clear hK K q1 hb1
    have q1 := q2
    clear q2
    try simp only [Act.put, x2, x3, x4, x5, x6, x7]
    refine tk (i := 2) (v := ?_) rfl (Or.inl ⟨by rfl, ?_⟩) ?_
    rotate_left
    · intro Wq hSw
      clear hSw
      go_simp
      all_goals (with_reducible rfl)
    try simp only [Act.put, x2, x3, x4, x5, x6, x7]
    refine tk (i := 3) (v := ?_) rfl (Or.inl ⟨by rfl, ?_⟩) ?_
    rotate_left
    · intro Wq hSw
      clear hSw
      go_simp
      all_goals (with_reducible rfl)
    try simp only [Act.put, x2, x3, x4, x5, x6, x7]
    refine tk (i := 4) (v := _) rfl (Or.inr ⟨by rfl, rfl⟩) ?_
    try simp only [Act.put, x2, x3, x4, x5, x6, x7]
    refine tk (i := 5) (v := _) rfl (Or.inr ⟨by rfl, rfl⟩) ?_
    try simp only [Act.put, x2, x3, x4, x5, x6, x7]
    refine tk (i := 7) (v := _) rfl (Or.inr ⟨by rfl, rfl⟩) ?_
    try simp only [Act.put, x2, x3, x4, x5, x6, x7]
    refine tk (i := 10) (v := _) rfl (Or.inr ⟨by rfl, rfl⟩) ?_
    try simp only [Act.put, x2, x3, x4, x5, x6, x7]
    refine tk (i := 12) (v := _) rfl (Or.inr ⟨by rfl, rfl⟩) ?_
    try simp only [Act.put, x2, x3, x4, x5, x6, x7]
    refine tk (i := 14) (v := _) rfl (Or.inr ⟨by rfl, rfl⟩) ?_
    try simp only [Act.put, x2, x3, x4, x5, x6, x7]
    refine tk (i := 6) (v := _) rfl (Or.inr ⟨by rfl, rfl⟩) ?_
    try simp only [Act.put, x2, x3, x4, x5, x6, x7]
    refine tk (i := 8) (v := _) rfl (Or.inr ⟨by rfl, rfl⟩) ?_
    try simp only [Act.put, x2, x3, x4, x5, x6, x7]
    refine tk (i := 9) (v := _) rfl (Or.inr ⟨by rfl, rfl⟩) ?_
    try simp only [Act.put, x2, x3, x4, x5, x6, x7]
    refine tk (i := 11) (v := _) rfl (Or.inr ⟨by rfl, rfl⟩) ?_
    try simp only [Act.put, x2, x3, x4, x5, x6, x7]
    refine tk (i := 13) (v := _) rfl (Or.inr ⟨by rfl, rfl⟩) ?_
    try simp only [Act.put, x2, x3, x4, x5, x6, x7]
    refine tk (i := 15) (v := _) rfl (Or.inr ⟨by rfl, rfl⟩) ?_
    try simp only [Act.put, x2, x3, x4, x5, x6, x7]
    refine tk (i := 16) (v := _) rfl (Or.inr ⟨by rfl, rfl⟩) ?_
    try simp only [Act.put, x2, x3, x4, x5, x6, x7]
    refine tk (i := 17) (v := _) rfl (Or.inr ⟨by rfl, rfl⟩) ?_
    try simp only [Act.put, x2, x3, x4, x5, x6, x7]
    refine tk (i := 18) (v := ?_) rfl (Or.inl ⟨by rfl, ?_⟩) ?_
    rotate_left
    · intro Wq hSw
      clear hSw
      go_simp
      all_goals (with_reducible rfl)
    try simp only [Act.put, x2, x3, x4, x5, x6, x7]
    refine tk (i := 19) (v := ?_) rfl (Or.inl ⟨by rfl, ?_⟩) ?_
    rotate_left
    · intro Wq hSw
      clear hSw
      go_simp
      all_goals (with_reducible rfl)
    try simp only [Act.put, x2, x3, x4, x5, x6, x7]
    refine wpAnyH_done (by kernel_rfl) ?_ _
    go_wp2_with fail
    go_ret
    exact ⟨by rw [HZ.out]; rfl, (id q1).2.2.2.2.2.2.2.2.2.2.hb⟩
  · have hn : (sg3 zt == 0) = false := by rcases sg3_vals zt with ⟨k, e⟩ | ⟨k, e⟩ | ⟨k, e⟩ <;> rw [e] <;> first | rfl | omega
    have hst : sg3 zt = sg3 zt := rfl
    have HZ : Hid (skinnyB a b c = decide (0 < sg3 (zx * zy * zz - 8 * zl * zt * zt))) := by unfold Hid; rw [HP.out, ← HS.out h0, decide_eq_false h0]; simp
    clear h0 HP HS
    refine wp_region_held_drew (S := fun W => Var W (g7) [.bool m7, .slice ad7 n7 c7] ∧ Var W (g8) [.bool m8, .slice ad8 n8 c8] ∧ Var W (g9) [.bool m9, .slice ad9 n9 c9] ∧ Var W (g10) [.bool m10, .slice ad10 n10 c10] ∧ Var W (g11) [.bool m11, .slice ad11 n11 c11] ∧ NumIs (.agg #[.bool m7, .slice ad7 n7 c7]) (zx) W ∧ NumIs (.agg #[.bool m8, .slice ad8 n8 c8]) (zy) W ∧ NumIs (.agg #[.bool m9, .slice ad9 n9 c9]) (zz) W ∧ NumIs (.agg #[.bool m10, .slice ad10 n10 c10]) (zl) W ∧ NumIs (.agg #[.bool m11, .slice ad11 n11 c11]) (zt) W ∧ Grew w 3 W) (by kernel_rfl) ?_ (fun q1 => ?_)
    · exact ⟨HS3.out.1.below (bel_drew _), HS3.out.2.1.below (bel_drew _), HS3.out.2.2.1.below (bel_drew _), HS3.out.2.2.2.1.below (bel_drew _), HS3.out.2.2.2.2.1.below (bel_drew _), HS3.out.2.2.2.2.2.1.below (bel_drew _), HS3.out.2.2.2.2.2.2.1.below (bel_drew _), HS3.out.2.2.2.2.2.2.2.1.below (bel_drew _), HS3.out.2.2.2.2.2.2.2.2.1.below (bel_drew _), HS3.out.2.2.2.2.2.2.2.2.2.1.below (bel_drew _), HS3.out.2.2.2.2.2.2.2.2.2.2.below (bel_drew _)⟩
    revert q1
    generalize World.drew _ = W1
    intro q1 
    refine tk (i := 0) (v := ?_) rfl (Or.inl ⟨by rfl, ?_⟩) ?_
    rotate_left
    · intro Wq hSw
      obtain ⟨k0, k1⟩ := (id hSw).2.2.2.2.1.two
      clear hSw
      go_simp
      all_goals (with_reducible rfl)
    try simp only [Act.put, x2, x4, x5, x6, x7]
    refine wpAnyH_ready (rs := [1]) (by kernel_rfl) (by simp) ?_
    refine (AllReadyH.cons rfl (fun K hK => ?_) AllReadyH.nil)
    rw [if_pos (by rfl)]
    go_simp
    go_at_call 58
    (with_reducible refine (sign_num _ _ _ (id q1).2.2.2.2.2.2.2.2.2.1).mono ?_)
    rintro e w1 ⟨rfl, hb1⟩
    have hsg : sgZ zt = sg3 zt := rfl
    rw [hsg]
    clear hsg
    go_wp2_with fail
    refine hK.out _ _ ?_ (fun q2 => ?_)
    · exact ⟨(id q1).1.below hb1, (id q1).2.1.below hb1, (id q1).2.2.1.below hb1, (id q1).2.2.2.1.below hb1, (id q1).2.2.2.2.1.below hb1, (id q1).2.2.2.2.2.1.below hb1, (id q1).2.2.2.2.2.2.1.below hb1, (id q1).2.2.2.2.2.2.2.1.below hb1, (id q1).2.2.2.2.2.2.2.2.1.below hb1, (id q1).2.2.2.2.2.2.2.2.2.1.below hb1, (id q1).2.2.2.2.2.2.2.2.2.2.below hb1⟩
    clear hK K q1 hb1
    have q1 := q2
    clear q2
    try simp only [Act.put, x2, x3, x4, x5, x6, x7]
    refine tk (i := 2) (v := ?_) rfl (Or.inl ⟨by rfl, ?_⟩) ?_
    rotate_left
    · intro Wq hSw
      clear hSw
      go_simp
      all_goals (with_reducible rfl)
    try simp only [Act.put, x2, x3, x4, x5, x6, x7]
    refine tk (i := 3) (v := ?_) rfl (Or.inl ⟨by rfl, ?_⟩) ?_
    rotate_left
    · intro Wq hSw
      clear hSw
      go_simp
      all_goals (with_reducible rfl)
    try simp only [Act.put, x2, x3, x4, x5, x6, x7]
    refine tk (i := 4) (v := ?_) rfl (Or.inl ⟨by rfl, ?_⟩) ?_
    rotate_left
    · intro Wq hSw
      obtain ⟨k0, k1⟩ := (id hSw).1.two
      clear hSw
      go_simp
      all_goals (with_reducible rfl)
    try simp only [Act.put, x2, x3, x4, x5, x6, x7]
    refine tk (i := 5) (v := ?_) rfl (Or.inl ⟨by rfl, ?_⟩) ?_
    rotate_left
    · intro Wq hSw
      obtain ⟨k0, k1⟩ := (id hSw).2.1.two
      clear hSw
      go_simp
      all_goals (with_reducible rfl)
    try simp only [Act.put, x2, x3, x4, x5, x6, x7]
    refine tk (i := 7) (v := ?_) rfl (Or.inl ⟨by rfl, ?_⟩) ?_
    rotate_left
    · intro Wq hSw
      obtain ⟨k0, k1⟩ := (id hSw).2.2.1.two
      clear hSw
      go_simp
      all_goals (with_reducible rfl)
    try simp only [Act.put, x2, x3, x4, x5, x6, x7]
    refine tk (i := 10) (v := ?_) rfl (Or.inl ⟨by rfl, ?_⟩) ?_
    rotate_left
    · intro Wq hSw
      obtain ⟨k0, k1⟩ := (id hSw).2.2.2.1.two
      clear hSw
      go_simp
      all_goals (with_reducible rfl)
    try simp only [Act.put, x2, x3, x4, x5, x6, x7]
    refine tk (i := 12) (v := ?_) rfl (Or.inl ⟨by rfl, ?_⟩) ?_
    rotate_left
    · intro Wq hSw
      obtain ⟨k0, k1⟩ := (id hSw).2.2.2.2.1.two
      clear hSw
      go_simp
      all_goals (with_reducible rfl)
    try simp only [Act.put, x2, x3, x4, x5, x6, x7]
    refine tk (i := 14) (v := ?_) rfl (Or.inl ⟨by rfl, ?_⟩) ?_
    rotate_left
    · intro Wq hSw
      obtain ⟨k0, k1⟩ := (id hSw).2.2.2.2.1.two
      clear hSw
      go_simp
      all_goals (with_reducible rfl)
    try simp only [Act.put, x2, x3, x4, x5, x6, x7]
    refine wpAnyH_ready (rs := [6]) (by kernel_rfl) (by simp) ?_
    refine (AllReadyH.cons rfl (fun K hK => ?_) AllReadyH.nil)
    rw [if_pos (by rfl)]
    go_simp
    go_at_call 36
    (with_reducible refine (times_num _ _ zx zy _ (id q1).2.2.2.2.2.1 (id q1).2.2.2.2.2.2.1 BIGx.out BIGy.out).mono ?_); rintro e w1 ⟨vp, rfl, hNp, hb1⟩
    obtain ⟨mp, adp, np, cp, rfl⟩ := hNp.shape
    have HNp := Lib.hid hNp
    clear hNp
    go_wp2_with fail
    refine hK.out _ _ ?_ (fun q2 => ?_)
    · exact ⟨(id q1).1.below hb1, (id q1).2.1.below hb1, (id q1).2.2.1.below hb1, (id q1).2.2.2.1.below hb1, (id q1).2.2.2.2.1.below hb1, (id q1).2.2.2.2.2.1.below hb1, (id q1).2.2.2.2.2.2.1.below hb1, (id q1).2.2.2.2.2.2.2.1.below hb1, (id q1).2.2.2.2.2.2.2.2.1.below hb1, (id q1).2.2.2.2.2.2.2.2.2.1.below hb1, (id q1).2.2.2.2.2.2.2.2.2.2.below hb1⟩
    clear hK K q1 hb1
    have q1 := q2
    clear q2
    try simp only [Act.put, x2, x3, x4, x5, x6, x7]
    refine wpAnyH_ready (rs := [8]) (by kernel_rfl) (by simp) ?_
    refine (AllReadyH.cons rfl (fun K hK => ?_) AllReadyH.nil)
    rw [if_pos (by rfl)]
    go_simp
    go_at_call 36
    (with_reducible refine (times_num _ _ (zx * zy) zz _ HNp.out (id q1).2.2.2.2.2.2.2.1 Bxy.out BIGz.out).mono ?_); rintro e w1 ⟨vq, rfl, hNq, hb1⟩
    obtain ⟨mq, adq, nq, cq, rfl⟩ := hNq.shape
    have HNq := Lib.hid hNq
    clear hNq
    go_wp2_with fail
    refine hK.out _ _ ?_ (fun q2 => ?_)
    · exact ⟨(id q1).1.below hb1, (id q1).2.1.below hb1, (id q1).2.2.1.below hb1, (id q1).2.2.2.1.below hb1, (id q1).2.2.2.2.1.below hb1, (id q1).2.2.2.2.2.1.below hb1, (id q1).2.2.2.2.2.2.1.below hb1, (id q1).2.2.2.2.2.2.2.1.below hb1, (id q1).2.2.2.2.2.2.2.2.1.below hb1, (id q1).2.2.2.2.2.2.2.2.2.1.below hb1, (id q1).2.2.2.2.2.2.2.2.2.2.below hb1⟩
    replace HNp := Lib.hid (HNp.out.below hb1)
    clear hK K q1 hb1
    have q1 := q2
    clear q2
    try simp only [Act.put, x2, x3, x4, x5, x6, x7]
    refine wpAnyH_ready (rs := [9]) (by kernel_rfl) (by simp) ?_
    refine (AllReadyH.cons rfl (fun K hK => ?_) AllReadyH.nil)
    rw [if_pos (by rfl)]
    go_simp
    go_at_call 70
    (with_reducible refine (num_n 8 R8.out _).mono ?_); rintro e w1 ⟨ve, rfl, hNe, hb1⟩
    obtain ⟨me, ade, ne, ce, rfl⟩ := hNe.shape
    have HNe := Lib.hid hNe
    clear hNe
    go_wp2_with fail
    refine hK.out _ _ ?_ (fun q2 => ?_)
    · exact ⟨(id q1).1.below hb1, (id q1).2.1.below hb1, (id q1).2.2.1.below hb1, (id q1).2.2.2.1.below hb1, (id q1).2.2.2.2.1.below hb1, (id q1).2.2.2.2.2.1.below hb1, (id q1).2.2.2.2.2.2.1.below hb1, (id q1).2.2.2.2.2.2.2.1.below hb1, (id q1).2.2.2.2.2.2.2.2.1.below hb1, (id q1).2.2.2.2.2.2.2.2.2.1.below hb1, (id q1).2.2.2.2.2.2.2.2.2.2.below hb1⟩
    replace HNp := Lib.hid (HNp.out.below hb1)
    replace HNq := Lib.hid (HNq.out.below hb1)
    clear hK K q1 hb1
    have q1 := q2
    clear q2
    try simp only [Act.put, x2, x3, x4, x5, x6, x7]
    refine wpAnyH_ready (rs := [11]) (by kernel_rfl) (by simp) ?_
    refine (AllReadyH.cons rfl (fun K hK => ?_) AllReadyH.nil)
    rw [if_pos (by rfl)]
    go_simp
    go_at_call 36
    (with_reducible refine (times_num _ _ 8 zl _ HNe.out (id q1).2.2.2.2.2.2.2.2.1 B8.out Bl.out).mono ?_); rintro e w1 ⟨vr, rfl, hNr, hb1⟩
    obtain ⟨mr, adr, nr, cr, rfl⟩ := hNr.shape
    have HNr := Lib.hid hNr
    clear hNr
    go_wp2_with fail
    refine hK.out _ _ ?_ (fun q2 => ?_)
    · exact ⟨(id q1).1.below hb1, (id q1).2.1.below hb1, (id q1).2.2.1.below hb1, (id q1).2.2.2.1.below hb1, (id q1).2.2.2.2.1.below hb1, (id q1).2.2.2.2.2.1.below hb1, (id q1).2.2.2.2.2.2.1.below hb1, (id q1).2.2.2.2.2.2.2.1.below hb1, (id q1).2.2.2.2.2.2.2.2.1.below hb1, (id q1).2.2.2.2.2.2.2.2.2.1.below hb1, (id q1).2.2.2.2.2.2.2.2.2.2.below hb1⟩
    replace HNp := Lib.hid (HNp.out.below hb1)
    replace HNq := Lib.hid (HNq.out.below hb1)
    replace HNe := Lib.hid (HNe.out.below hb1)
    clear hK K q1 hb1
    have q1 := q2
    clear q2
    try simp only [Act.put, x2, x3, x4, x5, x6, x7]
    refine wpAnyH_ready (rs := [13]) (by kernel_rfl) (by simp) ?_
    refine (AllReadyH.cons rfl (fun K hK => ?_) AllReadyH.nil)
    rw [if_pos (by rfl)]
    go_simp
    go_at_call 36
    (with_reducible refine (times_num _ _ (8 * zl) zt _ HNr.out (id q1).2.2.2.2.2.2.2.2.2.1 B8l.out Bt.out).mono ?_); rintro e w1 ⟨vs, rfl, hNs, hb1⟩
    obtain ⟨ms, ads, ns, cs, rfl⟩ := hNs.shape
    have HNs := Lib.hid hNs
    clear hNs
    go_wp2_with fail
    refine hK.out _ _ ?_ (fun q2 => ?_)
    · exact ⟨(id q1).1.below hb1, (id q1).2.1.below hb1, (id q1).2.2.1.below hb1, (id q1).2.2.2.1.below hb1, (id q1).2.2.2.2.1.below hb1, (id q1).2.2.2.2.2.1.below hb1, (id q1).2.2.2.2.2.2.1.below hb1, (id q1).2.2.2.2.2.2.2.1.below hb1, (id q1).2.2.2.2.2.2.2.2.1.below hb1, (id q1).2.2.2.2.2.2.2.2.2.1.below hb1, (id q1).2.2.2.2.2.2.2.2.2.2.below hb1⟩
    replace HNp := Lib.hid (HNp.out.below hb1)
    replace HNq := Lib.hid (HNq.out.below hb1)
    replace HNe := Lib.hid (HNe.out.below hb1)
    replace HNr := Lib.hid (HNr.out.below hb1)
    clear hK K q1 hb1
    have q1 := q2
    clear q2
    try simp only [Act.put, x2, x3, x4, x5, x6, x7]
    refine wpAnyH_ready (rs := [15]) (by kernel_rfl) (by simp) ?_
    refine (AllReadyH.cons rfl (fun K hK => ?_) AllReadyH.nil)
    rw [if_pos (by rfl)]
    go_simp
    go_at_call 36
    (with_reducible refine (times_num _ _ (8 * zl * zt) zt _ HNs.out (id q1).2.2.2.2.2.2.2.2.2.1 B8t.out Bt.out).mono ?_); rintro e w1 ⟨vt, rfl, hNt, hb1⟩
    obtain ⟨mt, adt, nt, ct, rfl⟩ := hNt.shape
    have HNt := Lib.hid hNt
    clear hNt
    go_wp2_with fail
    refine hK.out _ _ ?_ (fun q2 => ?_)
    · exact ⟨(id q1).1.below hb1, (id q1).2.1.below hb1, (id q1).2.2.1.below hb1, (id q1).2.2.2.1.below hb1, (id q1).2.2.2.2.1.below hb1, (id q1).2.2.2.2.2.1.below hb1, (id q1).2.2.2.2.2.2.1.below hb1, (id q1).2.2.2.2.2.2.2.1.below hb1, (id q1).2.2.2.2.2.2.2.2.1.below hb1, (id q1).2.2.2.2.2.2.2.2.2.1.below hb1, (id q1).2.2.2.2.2.2.2.2.2.2.below hb1⟩
    replace HNp := Lib.hid (HNp.out.below hb1)
    replace HNq := Lib.hid (HNq.out.below hb1)
    replace HNe := Lib.hid (HNe.out.below hb1)
    replace HNr := Lib.hid (HNr.out.below hb1)
    replace HNs := Lib.hid (HNs.out.below hb1)
    clear hK K q1 hb1
    have q1 := q2
    clear q2
    try simp only [Act.put, x2, x3, x4, x5, x6, x7]
    refine wpAnyH_ready (rs := [16]) (by kernel_rfl) (by simp) ?_
    refine (AllReadyH.cons rfl (fun K hK => ?_) AllReadyH.nil)
    rw [if_pos (by rfl)]
    go_simp
    go_at_call 40
    (with_reducible refine (cmp_n _ _ (zx * zy * zz) (8 * zl * zt * zt) Bxyz.out B8tt.out _ HNq.out HNt.out).mono ?_)
    rintro e w1 ⟨rfl, hb1⟩
    go_wp2_with fail
    refine hK.out _ _ ?_ (fun q2 => ?_)
    · exact ⟨(id q1).1.below hb1, (id q1).2.1.below hb1, (id q1).2.2.1.below hb1, (id q1).2.2.2.1.below hb1, (id q1).2.2.2.2.1.below hb1, (id q1).2.2.2.2.2.1.below hb1, (id q1).2.2.2.2.2.2.1.below hb1, (id q1).2.2.2.2.2.2.2.1.below hb1, (id q1).2.2.2.2.2.2.2.2.1.below hb1, (id q1).2.2.2.2.2.2.2.2.2.1.below hb1, (id q1).2.2.2.2.2.2.2.2.2.2.below hb1⟩
    replace HNp := Lib.hid (HNp.out.below hb1)
    replace HNq := Lib.hid (HNq.out.below hb1)
    replace HNe := Lib.hid (HNe.out.below hb1)
    replace HNr := Lib.hid (HNr.out.below hb1)
    replace HNs := Lib.hid (HNs.out.below hb1)
    replace HNt := Lib.hid (HNt.out.below hb1)
    clear hK K q1 hb1
    have q1 := q2
    clear q2
    try simp only [Act.put, x2, x3, x4, x5, x6, x7]
    refine tk (i := 17) (v := ?_) rfl (Or.inl ⟨by rfl, ?_⟩) ?_
    rotate_left
    · intro Wq hSw
      clear hSw
      go_simp
      all_goals (with_reducible rfl)
    try simp only [Act.put, x2, x3, x4, x5, x6, x7]
    refine tk (i := 18) (v := ?_) rfl (Or.inl ⟨by rfl, ?_⟩) ?_
    rotate_left
    · intro Wq hSw
      clear hSw
      go_simp
      all_goals (with_reducible rfl)
    try simp only [Act.put, x2, x3, x4, x5, x6, x7]
    refine tk (i := 19) (v := ?_) rfl (Or.inl ⟨by rfl, ?_⟩) ?_
    rotate_left
    · intro Wq hSw
      clear hSw
      go_simp
      all_goals (with_reducible rfl)
    try simp only [Act.put, x2, x3, x4, x5, x6, x7]
    refine wpAnyH_done (by kernel_rfl) ?_ _
    go_wp2_with fail
    go_ret
    exact ⟨by rw [HZ.out]; rfl, (id q1).2.2.2.2.2.2.2.2.2.2.hb⟩
end Go.Proofs.Ytojfggnimmaemaa

/-
  Contract of the document's Middle (layer 3).
-/
namespace Go.Proofs.Ytojfggnimmaemaa
open Go.RowKit

/-- half of a sum, and whether it is even, as the document reckons -/
theorem even_is {s : Int} (h0 : -8589934592 ≤ s ∧ s ≤ 8589934592) : ∃ q m : Int, Int.tdiv s 2 = q ∧ (wrap64 q = q ∧ wrap64 (q * 2) = m ∧ IntKind.i64.wrap q = q ∧ IntKind.i64.wrap (q * 2) = m) ∧ (s != m) = !(decide (s % 2 = 0)) ∧ (s == m) = decide (s % 2 = 0) ∧ (s % 2 = 0 → q = s / 2) := by
  by_cases h : s % 2 = 0
  · obtain ⟨p1, p2⟩ := half_is h
    refine ⟨s / 2, s, p2, ⟨by unfold wrap64; omega, by unfold wrap64; omega, IntWalk.i64_in _ (by omega), ?_⟩, by simp [h], by simp [h], fun _ => rfl⟩
    rw [IntWalk.i64_in _ (by omega)]; omega
  · have hm : Int.tdiv s 2 * 2 + Int.tmod s 2 = s := by have := Int.mul_tdiv_add_tmod s 2; omega
    have p1 := odd_is h
    have hb : -2 < Int.tmod s 2 ∧ Int.tmod s 2 < 2 := ⟨by have := Int.lt_tmod_of_pos s (show (0 : Int) < 2 by decide); omega, Int.tmod_lt_of_pos s (by decide)⟩
    have hw : IntKind.i64.wrap (Int.tdiv s 2 * 2) = Int.tdiv s 2 * 2 := IntWalk.i64_in _ (by omega)
    have hne : s ≠ Int.tdiv s 2 * 2 := by omega
    refine ⟨_, _, rfl, ⟨by unfold wrap64; omega, by unfold wrap64; omega, IntWalk.i64_in _ (by omega), hw⟩, ?_, ?_, fun k => absurd k h⟩
    · simp [h, hne]
    · simp [h, hne]

set_option maxHeartbeats 4000000 in
set_option maxRecDepth 100000 in
theorem refMiddle_l (a b : Pt) (w : World) : Calls Try.prog 30 #[.agg #[.int .i64 a.x, .int .i64 a.y], .agg #[.int .i64 b.x, .int .i64 b.y]] w (Gives (.tuple #[.agg #[.int .i64 (midP a b).x, .int .i64 (midP a b).y], .bool (midOk a b)]) w) := by
  have C1 := Lib.hid (fun W => refFits3_l a W)
  have C2 := Lib.hid (fun W => refFits3_l b W)
  have HO : Hid (midOk a b = (fitB a && fitB b && decide ((a.x + b.x) % 2 = 0) && decide ((a.y + b.y) % 2 = 0))) := rfl
  have HM : Hid (midP a b = if midOk a b then ⟨(a.x + b.x) / 2, (a.y + b.y) / 2⟩ else ⟨0, 0⟩) := rfl
  obtain ⟨x, hx, gx⟩ : ∃ x, IntKind.i64.wrap (a.x + b.x) = x ∧ Hid (fitB a = true → fitB b = true → x = a.x + b.x ∧ (-8589934592 ≤ x ∧ x ≤ 8589934592)) := ⟨_, rfl, fun h k => by
    have h1 := fitB_iff.1 h; have h2 := fitB_iff.1 k; unfold Pt.fits at h1 h2
    rw [IntWalk.i64_in _ (by omega)]; exact ⟨rfl, by omega⟩⟩
  obtain ⟨y, hy, gy⟩ : ∃ y, IntKind.i64.wrap (a.y + b.y) = y ∧ Hid (fitB a = true → fitB b = true → y = a.y + b.y ∧ (-8589934592 ≤ y ∧ y ≤ 8589934592)) := ⟨_, rfl, fun h k => by
    have h1 := fitB_iff.1 h; have h2 := fitB_iff.1 k; unfold Pt.fits at h1 h2
    rw [IntWalk.i64_in _ (by omega)]; exact ⟨rfl, by omega⟩⟩
  go_enter Try.func30, Try.ntmps30
  go_upto_region 1 with (fail)
  refine wp_abs (fun W => Var W (w.heap.size) [.int .i64 a.x, .int .i64 a.y] ∧ Var W (w.heap.size + 1) [.int .i64 b.x, .int .i64 b.y] ∧ Var W (w.heap.size + 1 + 1) [.int .i64 0, .int .i64 0] ∧ Grew w 3 W) ?_ ?_
  · exact ⟨(var2_new _ _ _ _ _ rfl).below (bl_alloc (bl_one _ _) _), (var2_new _ _ _ _ _ (by simp)).below (bl_one _ _), var2_new _ _ _ _ _ (by simp), by repeat (first | (with_reducible exact Below.refl _ _) | (with_reducible refine bl_alloc ?_ _) | (with_reducible refine Below.drew ?_) | (with_reducible refine below_drewN' ?_ _) | ((with_reducible refine bl_set ?_ ?_ _); (rotate_left; (dsimp only; omega)))), by simp⟩
  rintro W0 hS0
  have HS0 := Lib.hid hS0
  clear hS0
  obtain ⟨c0, c1⟩ := HS0.out.1.two
  obtain ⟨c2, c3⟩ := HS0.out.2.1.two
  obtain ⟨d0, d1⟩ := HS0.out.2.2.1.two
  obtain ⟨f0, f1⟩ := HS0.out.2.2.1.free2
  go_wp2_with fail
  (with_reducible refine (C1.out _).mono ?_); rintro e w1 ⟨rfl, hb1⟩
  replace HS0 : Hid ((fun W => Var W (w.heap.size) [.int .i64 a.x, .int .i64 a.y] ∧ Var W (w.heap.size + 1) [.int .i64 b.x, .int .i64 b.y] ∧ Var W (w.heap.size + 1 + 1) [.int .i64 0, .int .i64 0] ∧ Grew w 3 W) w1) := ⟨HS0.out.1.below hb1, HS0.out.2.1.below hb1, HS0.out.2.2.1.below hb1, HS0.out.2.2.2.below hb1⟩
  clear c0 c1 c2 c3 d0 d1 f0 f1 hb1
  obtain ⟨c0, c1⟩ := HS0.out.1.two
  obtain ⟨c2, c3⟩ := HS0.out.2.1.two
  obtain ⟨d0, d1⟩ := HS0.out.2.2.1.two
  obtain ⟨f0, f1⟩ := HS0.out.2.2.1.free2
  clear hx hy C1
  generalize fitB a = fa at *
  cases fa
  case false =>
    have h1 : midOk a b = false := by rw [HO.out]; simp
    have H1 := Lib.hid h1
    have HG := Lib.hid HS0.out.2.2.2
    clear h1 gx gy HO
    go_wp2
    refine bodyPost_ret (v := .tuple #[.agg #[.int .i64 0, .int .i64 0], .bool false]) (by simp [results, Try.results30, go_sem, d0, d1]; done) rfl ⟨by rw [HM.out, H1.out]; rfl, ((HG.out.set (by dsimp only; omega) _).set (by dsimp only; omega) _).hb⟩
  case true =>
  go_wp2_with fail
  (with_reducible refine (C2.out _).mono ?_); rintro e w1 ⟨rfl, hb1⟩
  replace HS0 : Hid ((fun W => Var W (w.heap.size) [.int .i64 a.x, .int .i64 a.y] ∧ Var W (w.heap.size + 1) [.int .i64 b.x, .int .i64 b.y] ∧ Var W (w.heap.size + 1 + 1) [.int .i64 0, .int .i64 0] ∧ Grew w 3 W) w1) := ⟨HS0.out.1.below hb1, HS0.out.2.1.below hb1, HS0.out.2.2.1.below hb1, HS0.out.2.2.2.below hb1⟩
  clear c0 c1 c2 c3 d0 d1 f0 f1 hb1
  obtain ⟨c0, c1⟩ := HS0.out.1.two
  obtain ⟨c2, c3⟩ := HS0.out.2.1.two
  obtain ⟨d0, d1⟩ := HS0.out.2.2.1.two
  obtain ⟨f0, f1⟩ := HS0.out.2.2.1.free2
  clear C2
  generalize fitB b = fb at *
  cases fb
  case false =>
    have h1 : midOk a b = false := by rw [HO.out]; simp
    have H1 := Lib.hid h1
    have HG := Lib.hid HS0.out.2.2.2
    clear h1 gx gy HO
    go_wp2
    refine bodyPost_ret (v := .tuple #[.agg #[.int .i64 0, .int .i64 0], .bool false]) (by simp [results, Try.results30, go_sem, d0, d1]; done) rfl ⟨by rw [HM.out, H1.out]; rfl, ((HG.out.set (by dsimp only; omega) _).set (by dsimp only; omega) _).hb⟩
  case true =>
  obtain ⟨ex, bx⟩ : x = a.x + b.x ∧ (-8589934592 ≤ x ∧ x ≤ 8589934592) := by simpa using gx.out
  obtain ⟨ey, b_y⟩ : y = a.y + b.y ∧ (-8589934592 ≤ y ∧ y ≤ 8589934592) := by simpa using gy.out
  have HG := Lib.hid HS0.out.2.2.2
  have HO2 : Hid (midOk a b = (decide (x % 2 = 0) && decide (y % 2 = 0))) := by unfold Hid; rw [HO.out, ← ex, ← ey]; simp
  have HM2 : Hid (midP a b = if midOk a b then ⟨x / 2, y / 2⟩ else ⟨0, 0⟩) := by unfold Hid; rw [HM.out, ← ex, ← ey]
  clear HO HM gx gy HS0 c0 c1 c2 c3
  have HM := HM2
  clear HM2
  obtain ⟨qx, mx, t1, ⟨t5, t6, t7, t8⟩, t3, t4, gqx⟩ := even_is bx
  obtain ⟨qy, my, s1, ⟨s5, s6, s7, s8⟩, s3, s4, gqy⟩ := even_is b_y
  have GX := Lib.hid gqx
  have GY := Lib.hid gqy
  clear ex ey bx b_y gqx gqy
  by_cases h1 : x % 2 = 0
  · have e1 := GX.out h1
    rw [decide_eq_true h1] at t3 t4 HO2
    rw [Bool.not_true] at t3
    by_cases h2 : y % 2 = 0
    · have e2 := GY.out h2
      rw [decide_eq_true h2] at s3 s4 HO2
      rw [Bool.not_true] at s3
      have H3 : Hid (midOk a b = true) := by unfold Hid; rw [HO2.out]; rfl
      subst e1 e2
      clear h1 h2 HO2 GX GY
      go_wp2
      refine bodyPost_ret (v := .tuple #[.agg #[.int .i64 (x / 2), .int .i64 (y / 2)], .bool true]) (by simp [results, Try.results30, go_sem, d0, d1]; done) rfl ⟨by rw [HM.out, H3.out]; rfl, ((HG.out.set (by dsimp only; omega) _).set (by dsimp only; omega) _).hb⟩
    · rw [decide_eq_false h2] at s3 s4 HO2
      rw [Bool.not_false] at s3
      have H3 : Hid (midOk a b = false) := by unfold Hid; rw [HO2.out]; rfl
      clear h1 h2 HO2 GX GY e1
      go_wp2
      refine bodyPost_ret (v := .tuple #[.agg #[.int .i64 0, .int .i64 0], .bool false]) (by simp [results, Try.results30, go_sem, d0, d1]; done) rfl ⟨by rw [HM.out, H3.out]; rfl, ((HG.out.set (by dsimp only; omega) _).set (by dsimp only; omega) _).hb⟩
  · rw [decide_eq_false h1] at t3 t4 HO2
    rw [Bool.not_false] at t3
    have H3 : Hid (midOk a b = false) := by unfold Hid; rw [HO2.out]; simp
    clear h1 HO2 GX GY
    go_wp2
    refine bodyPost_ret (v := .tuple #[.agg #[.int .i64 0, .int .i64 0], .bool false]) (by simp [results, Try.results30, go_sem, d0, d1]; done) rfl ⟨by rw [HM.out, H3.out]; rfl, ((HG.out.set (by dsimp only; omega) _).set (by dsimp only; omega) _).hb⟩
end Go.Proofs.Ytojfggnimmaemaa
/-
  The walk of the law PredSkinny.
-/
namespace Go.Proofs.Ytojfggnimmaemaa
open Go.RowKit

theorem max3_rot (p q r : Int) : maxZ q (maxZ r p) = maxZ p (maxZ q r) := by unfold maxZ; (repeat' split) <;> omega
theorem max3_rev (p q r : Int) : maxZ r (maxZ q p) = maxZ p (maxZ q r) := by unfold maxZ; (repeat' split) <;> omega
theorem sqZ_comm (a b : Pt) : sqZ b a = sqZ a b := by unfold sqZ; grind
theorem skinny_rot (a b c : Pt) : skinnyB b c a = skinnyB a b c := by
  unfold skinnyB
  rw [cross_rot, max3_rot]
  cases fitB a <;> cases fitB b <;> cases fitB c <;> rfl
theorem skinny_swap (a b c : Pt) : skinnyB b a c = skinnyB a b c := by
  unfold skinnyB
  rw [cross_swap, Int.neg_mul_neg, sqZ_comm a b, sqZ_comm c a, sqZ_comm b c, Int.mul_comm (sqZ a b) (sqZ c a), Int.mul_comm (sqZ c a) (sqZ b c), Int.mul_comm (sqZ b c) (sqZ a b), max3_rev]
  have : decide (-crossZ a b c = 0) = decide (crossZ a b c = 0) := by apply decide_eq_decide.2; omega
  rw [this]
  cases fitB a <;> cases fitB b <;> cases fitB c <;> rfl

set_option maxHeartbeats 8000000 in
set_option maxRecDepth 100000 in
theorem pskinny_l (a b c : Pt) (w : World) : Calls Try.prog 7 #[.agg #[.int .i64 a.x, .int .i64 a.y], .agg #[.int .i64 b.x, .int .i64 b.y], .agg #[.int .i64 c.x, .int .i64 c.y]] w (Gives (.bool true) w) := by
  have C1 := Lib.hid (fun W => skinny_l a b c W)
  have C2 := Lib.hid (fun W => middle_l a b W)
  have C3 := Lib.hid (fun W => refMiddle_l a b W)
  have C4 := Lib.hid (fun W => refSkinny_l a b c W)
  have C5 := Lib.hid (fun W => skinny_at b c a _ (skinny_rot a b c) W)
  have C6 := Lib.hid (fun W => skinny_at b a c _ (skinny_swap a b c) W)
  generalize skinnyB a b c = n at *
  generalize midP a b = m at *
  generalize midOk a b = ok at *
  have q1 : (n == n) = true := by simp
  have q2 : (ok == ok) = true := by simp
  have Em : ∀ w, (Op.equalIn 10000 23 (.agg #[.int .i64 m.x, .int .i64 m.y]) (.agg #[.int .i64 m.x, .int .i64 m.y])).run Try.prog w = .ok true w := fun w => by
    have := eqPt m m w
    rw [decide_eq_true rfl] at this
    exact this
  go_enter Try.func7, Try.ntmps7
  go_upto_region 1 with (fail)
  refine wp_abs (fun W => Var W (w.heap.size) [.int .i64 a.x, .int .i64 a.y] ∧ Var W (w.heap.size + 1) [.int .i64 b.x, .int .i64 b.y] ∧ Var W (w.heap.size + 1 + 1) [.int .i64 c.x, .int .i64 c.y] ∧ Grew w 3 W) ?_ ?_
  · exact ⟨(var2_new _ _ _ _ _ rfl).below (bl_alloc (bl_one _ _) _), (var2_new _ _ _ _ _ (by simp)).below (bl_one _ _), var2_new _ _ _ _ _ (by simp), by repeat (first | (with_reducible exact Below.refl _ _) | (with_reducible refine bl_alloc ?_ _) | (with_reducible refine Below.drew ?_) | (with_reducible refine below_drewN' ?_ _) | ((with_reducible refine bl_set ?_ ?_ _); (rotate_left; (dsimp only; omega)))), by simp⟩
  rintro W0 hS0
  have HS0 := Lib.hid hS0
  clear hS0
  obtain ⟨c0, c1⟩ := HS0.out.1.two
  obtain ⟨c2, c3⟩ := HS0.out.2.1.two
  obtain ⟨c4, c5⟩ := HS0.out.2.2.1.two
  go_wp2_with fail
  (with_reducible refine (C1.out _).mono ?_); rintro e w1 ⟨rfl, hb1⟩
  replace HS0 : Hid ((fun W => Var W (w.heap.size) [.int .i64 a.x, .int .i64 a.y] ∧ Var W (w.heap.size + 1) [.int .i64 b.x, .int .i64 b.y] ∧ Var W (w.heap.size + 1 + 1) [.int .i64 c.x, .int .i64 c.y] ∧ Grew w 3 W) w1) := ⟨HS0.out.1.below hb1, HS0.out.2.1.below hb1, HS0.out.2.2.1.below hb1, HS0.out.2.2.2.below hb1⟩
  clear c0 c1 c2 c3 c4 c5 hb1
  obtain ⟨c0, c1⟩ := HS0.out.1.two
  obtain ⟨c2, c3⟩ := HS0.out.2.1.two
  obtain ⟨c4, c5⟩ := HS0.out.2.2.1.two
  go_upto_region 2 with (fail)
  go_cut [8, 9] (fun pv xv W => ∃ g8 : Nat, pv = .pointer (some ⟨g8, 0, none⟩) ∧ xv = .bool ok ∧ Var W (g8) [.int .i64 m.x, .int .i64 m.y] ∧ (fun W => Var W (w.heap.size) [.int .i64 a.x, .int .i64 a.y] ∧ Var W (w.heap.size + 1) [.int .i64 b.x, .int .i64 b.y] ∧ Var W (w.heap.size + 1 + 1) [.int .i64 c.x, .int .i64 c.y] ∧ Grew w 3 W) W)
  case first =>
    clear c0 c1 c2 c3 c4 c5
    obtain ⟨c0, c1⟩ := HS0.out.1.two
    obtain ⟨c2, c3⟩ := HS0.out.2.1.two
    obtain ⟨c4, c5⟩ := HS0.out.2.2.1.two
    go_wp2_with fail
    (with_reducible refine (C2.out _).mono ?_); rintro e w1 ⟨rfl, hb1⟩
    go_wp2_with fail
    go_meet
    case rel => exact ⟨_, rfl, rfl, var2_new _ _ _ _ _ rfl, ⟨HS0.out.1.below (bl_trans hb1 (bl_one _ _)), HS0.out.2.1.below (bl_trans hb1 (bl_one _ _)), HS0.out.2.2.1.below (bl_trans hb1 (bl_one _ _)), HS0.out.2.2.2.below (bl_trans hb1 (bl_one _ _))⟩⟩
  case rest =>
  clear c0 c1 c2 c3 c4 c5
  obtain ⟨g8, rfl, rfl, vn, hS0⟩ := hcut
  clear HS0
  have HS0 : Hid ((fun W => Var W (w.heap.size) [.int .i64 a.x, .int .i64 a.y] ∧ Var W (w.heap.size + 1) [.int .i64 b.x, .int .i64 b.y] ∧ Var W (w.heap.size + 1 + 1) [.int .i64 c.x, .int .i64 c.y] ∧ Var W (g8) [.int .i64 m.x, .int .i64 m.y] ∧ Grew w 3 W) _) := ⟨hS0.1, hS0.2.1, hS0.2.2.1, vn, hS0.2.2.2⟩
  clear hS0 vn
  go_upto_region 3 with (fail)
  go_cut [10, 11] (fun pv xv W => ∃ g10 : Nat, pv = .pointer (some ⟨g10, 0, none⟩) ∧ xv = .bool ok ∧ Var W (g10) [.int .i64 m.x, .int .i64 m.y] ∧ (fun W => Var W (w.heap.size) [.int .i64 a.x, .int .i64 a.y] ∧ Var W (w.heap.size + 1) [.int .i64 b.x, .int .i64 b.y] ∧ Var W (w.heap.size + 1 + 1) [.int .i64 c.x, .int .i64 c.y] ∧ Var W (g8) [.int .i64 m.x, .int .i64 m.y] ∧ Grew w 3 W) W)
  case first =>
    obtain ⟨c0, c1⟩ := HS0.out.1.two
    obtain ⟨c2, c3⟩ := HS0.out.2.1.two
    obtain ⟨c4, c5⟩ := HS0.out.2.2.1.two
    obtain ⟨c6, c7⟩ := HS0.out.2.2.2.1.two
    go_wp2_with fail
    (with_reducible refine (C3.out _).mono ?_); rintro e w1 ⟨rfl, hb1⟩
    go_wp2_with fail
    go_meet
    case rel => exact ⟨_, rfl, rfl, var2_new _ _ _ _ _ rfl, ⟨HS0.out.1.below (bl_trans hb1 (bl_one _ _)), HS0.out.2.1.below (bl_trans hb1 (bl_one _ _)), HS0.out.2.2.1.below (bl_trans hb1 (bl_one _ _)), HS0.out.2.2.2.1.below (bl_trans hb1 (bl_one _ _)), HS0.out.2.2.2.2.below (bl_trans hb1 (bl_one _ _))⟩⟩
  case rest =>
  obtain ⟨g10, rfl, rfl, vn, hS0⟩ := hcut
  clear HS0
  have HS0 : Hid ((fun W => Var W (w.heap.size) [.int .i64 a.x, .int .i64 a.y] ∧ Var W (w.heap.size + 1) [.int .i64 b.x, .int .i64 b.y] ∧ Var W (w.heap.size + 1 + 1) [.int .i64 c.x, .int .i64 c.y] ∧ Var W (g8) [.int .i64 m.x, .int .i64 m.y] ∧ Var W (g10) [.int .i64 m.x, .int .i64 m.y] ∧ Grew w 3 W) _) := ⟨hS0.1, hS0.2.1, hS0.2.2.1, hS0.2.2.2.1, vn, hS0.2.2.2.2⟩
  clear hS0 vn
  clear C1 C2 C3
  obtain ⟨c0, c1⟩ := HS0.out.1.two
  obtain ⟨c2, c3⟩ := HS0.out.2.1.two
  obtain ⟨c4, c5⟩ := HS0.out.2.2.1.two
  obtain ⟨c6, c7⟩ := HS0.out.2.2.2.1.two
  obtain ⟨c8, c9⟩ := HS0.out.2.2.2.2.1.two
  go_wp2_with fail
  (with_reducible refine (C4.out _).mono ?_); rintro e w1 ⟨rfl, hb1⟩
  replace HS0 : Hid ((fun W => Var W (w.heap.size) [.int .i64 a.x, .int .i64 a.y] ∧ Var W (w.heap.size + 1) [.int .i64 b.x, .int .i64 b.y] ∧ Var W (w.heap.size + 1 + 1) [.int .i64 c.x, .int .i64 c.y] ∧ Var W (g8) [.int .i64 m.x, .int .i64 m.y] ∧ Var W (g10) [.int .i64 m.x, .int .i64 m.y] ∧ Grew w 3 W) w1) := ⟨HS0.out.1.below hb1, HS0.out.2.1.below hb1, HS0.out.2.2.1.below hb1, HS0.out.2.2.2.1.below hb1, HS0.out.2.2.2.2.1.below hb1, HS0.out.2.2.2.2.2.below hb1⟩
  clear c0 c1 c2 c3 c4 c5 c6 c7 c8 c9 hb1
  obtain ⟨c0, c1⟩ := HS0.out.1.two
  obtain ⟨c2, c3⟩ := HS0.out.2.1.two
  obtain ⟨c4, c5⟩ := HS0.out.2.2.1.two
  obtain ⟨c6, c7⟩ := HS0.out.2.2.2.1.two
  obtain ⟨c8, c9⟩ := HS0.out.2.2.2.2.1.two
  go_wp2_with fail
  (with_reducible refine (C5.out _).mono ?_); rintro e w1 ⟨rfl, hb1⟩
  replace HS0 : Hid ((fun W => Var W (w.heap.size) [.int .i64 a.x, .int .i64 a.y] ∧ Var W (w.heap.size + 1) [.int .i64 b.x, .int .i64 b.y] ∧ Var W (w.heap.size + 1 + 1) [.int .i64 c.x, .int .i64 c.y] ∧ Var W (g8) [.int .i64 m.x, .int .i64 m.y] ∧ Var W (g10) [.int .i64 m.x, .int .i64 m.y] ∧ Grew w 3 W) w1) := ⟨HS0.out.1.below hb1, HS0.out.2.1.below hb1, HS0.out.2.2.1.below hb1, HS0.out.2.2.2.1.below hb1, HS0.out.2.2.2.2.1.below hb1, HS0.out.2.2.2.2.2.below hb1⟩
  clear c0 c1 c2 c3 c4 c5 c6 c7 c8 c9 hb1
  obtain ⟨c0, c1⟩ := HS0.out.1.two
  obtain ⟨c2, c3⟩ := HS0.out.2.1.two
  obtain ⟨c4, c5⟩ := HS0.out.2.2.1.two
  obtain ⟨c6, c7⟩ := HS0.out.2.2.2.1.two
  obtain ⟨c8, c9⟩ := HS0.out.2.2.2.2.1.two
  go_wp2_with fail
  (with_reducible refine (C6.out _).mono ?_); rintro e w1 ⟨rfl, hb1⟩
  replace HS0 : Hid ((fun W => Var W (w.heap.size) [.int .i64 a.x, .int .i64 a.y] ∧ Var W (w.heap.size + 1) [.int .i64 b.x, .int .i64 b.y] ∧ Var W (w.heap.size + 1 + 1) [.int .i64 c.x, .int .i64 c.y] ∧ Var W (g8) [.int .i64 m.x, .int .i64 m.y] ∧ Var W (g10) [.int .i64 m.x, .int .i64 m.y] ∧ Grew w 3 W) w1) := ⟨HS0.out.1.below hb1, HS0.out.2.1.below hb1, HS0.out.2.2.1.below hb1, HS0.out.2.2.2.1.below hb1, HS0.out.2.2.2.2.1.below hb1, HS0.out.2.2.2.2.2.below hb1⟩
  clear c0 c1 c2 c3 c4 c5 c6 c7 c8 c9 hb1
  obtain ⟨c0, c1⟩ := HS0.out.1.two
  obtain ⟨c2, c3⟩ := HS0.out.2.1.two
  obtain ⟨c4, c5⟩ := HS0.out.2.2.1.two
  obtain ⟨c6, c7⟩ := HS0.out.2.2.2.1.two
  obtain ⟨c8, c9⟩ := HS0.out.2.2.2.2.1.two
  have HG := Lib.hid HS0.out.2.2.2.2.2
  go_wp2_with (first
    | (go_at_call 21; (with_reducible refine (known3_l _).mono ?_); rintro e w2 ⟨rfl, hb2⟩)
    | go_in)
  go_ret
  exact ⟨rfl, (HG.out.below hb2).hb⟩
end Go.Proofs.Ytojfggnimmaemaa

namespace Go.Proofs.Ytojfggnimmaemaa.predSkinny
open Go.ChangeShapes Go.WideShapes Go.ChangeAt Go.RowKit

theorem own : ownKnob Try.prog.godebug = none := by kernel_rfl

set_option maxRecDepth 100000 in
theorem lifted (os : Os) (started : os.Started) (H : Type) (enc : TypeId × Value → H) :
    ReturnsInHanded {} Try.checked os 7 .any (Rows.predSkinnySpec.pre6 enc Try.prog Try.f7 Rows.predSkinnyRow.domain false) (Rows.predSkinnySpec.post enc Try.prog Try.f7 false true false false) := by
  refine returnsInHanded_of_change (C := Try.checked) own started (by kernel_rfl) Try.func7
    (ChangeSpec.witness6 (enc := enc) (C := Try.checked) false ⟨#[], #[.agg #[.int .i64 0, .int .i64 0], .agg #[.int .i64 0, .int .i64 0], .agg #[.int .i64 0, .int .i64 0]], []⟩ 8 (by kernel_rfl) (by kernel_rfl) (by kernel_rfl) (by kernel_rfl)) ?_
  intro W base args ds gs before hval0 hW _ _
  have hval : ∀ (j : Nat) t v, Try.f7.params[j]? = some t → args[j]? = some v → Value.okWide Try.prog W .any base t v := hval0
  have hW' := hW
  obtain ⟨p, q, hA0, hV, rfl, -, -⟩ := hW
  have hA : DataW.TrodAll enc Try.prog W 0 (fun _ => true) true Try.f7.params.toList args.toList ds p := hA0
  rw [Try.params7] at hA hval
  obtain ⟨v0, vs0, d0, ds0, p0, q0, hargs0, rfl, rfl, h0, r0⟩ := trodAll_cons hA
  obtain ⟨v1, vs1, d1, ds1, p1, q1, hargs1, rfl, rfl, h1, r1⟩ := trodAll_cons r0
  obtain ⟨v2, vs2, d2, ds2, p2, q2, hargs2, rfl, rfl, h2, r2⟩ := trodAll_cons r1
  obtain ⟨rfl, rfl, rfl⟩ := trodAll_nil r2
  obtain rfl : args = #[v0, v1, v2] := by cases args; simp_all
  obtain ⟨rfl, rfl⟩ := trodVars_none hV
  obtain ⟨a0, rfl, rfl, rfl, wx0, wy0⟩ := open_pt (hval 0 23 v0 rfl rfl) h0
  obtain ⟨a1, rfl, rfl, rfl, wx1, wy1⟩ := open_pt (hval 1 23 v1 rfl rfl) h1
  obtain ⟨a2, rfl, rfl, rfl, wx2, wy2⟩ := open_pt (hval 2 23 v2 rfl rfl) h2
  clear hA0 hval0
  simp only [List.append_nil] at hW'
  refine (pskinny_l a0 a1 a2 W).mono fun e W' h => ?_
  obtain ⟨he, hb⟩ := h
  subst he
  exact ⟨_, rfl, _, _, _, [], [], [], hW', trodAll_cons_mk (shut_bool Try.underlying4 _) trodAll_mk0, (trodAll_cons_mk (p := []) (p' := []) (shut_pt wx0 wy0) (trodAll_cons_mk (p := []) (p' := []) (shut_pt wx1 wy1) (trodAll_cons_mk (p := []) (p' := []) (shut_pt wx2 wy2) trodAll_mk0))), rfl, hb.frame _, fun h => by cases h⟩

theorem proved : Rows.PredSkinnySaid :=
  OpenClaim.holds_of_wide 7 Try.f7 rfl rfl rfl rfl rfl rfl rfl ⟨rfl, rfl, rfl, rfl, rfl⟩ rfl rfl rfl rfl rfl (by kernel_rfl) Try.func7 (by kernel_rfl)
    (of_decide_eq_true (by kernel_rfl)) (by unfold Func.isWrapper; first | (rw [if_pos (by decide +kernel)]; kernel_rfl) | (rw [if_neg (by decide +kernel)]; exact ⟨rfl, rfl⟩))
    (fun os started H enc _ => lifted os started H enc)
end Go.Proofs.Ytojfggnimmaemaa.predSkinny
