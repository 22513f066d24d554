/-
  Contracts of meet's proper, Inside, On.
-/
import Derived.Test.YtkidphekfnmhhaaGeoAll
import Derived.Test.YtkidphekfnmhhaaGeoMath
import Derived.Lib.MinMax
namespace Go.Proofs.Ytkidphekfnmhhaa
open Go.RowKit

theorem eqPt' (a b : Pt) (w : World) : (Op.equalIn 10000 25 (.agg #[.int .i64 a.x, .int .i64 a.y]) (.agg #[.int .i64 b.x, .int .i64 b.y])).run Try.prog w = .ok (eqB a b) w := eqPt a b w

set_option maxHeartbeats 1000000 in
set_option maxRecDepth 100000 in
theorem proper_l (a b : Pt) (w : World) : Calls Try.prog 76 #[.agg #[.int .i64 a.x, .int .i64 a.y, .int .i64 b.x, .int .i64 b.y]] w (Gives (.bool (properB a b)) w) := by
  have q := eqPt' a b
  obtain ⟨f, hf⟩ : ∃ f, (fitB a && fitB b) = f := ⟨_, rfl⟩
  have HF := hi hf
  have HP : Hid (properB a b = (!(eqB a b) && f)) := by unfold properB; rw [hf]; exact rfl
  clear hf
  generalize eqB a b = e at *
  go_enter Try.func76, Try.ntmps76
  go_upto_region 1 with (fail)
  refine wp_abs (fun W => Var W w.heap.size [.int .i64 a.x, .int .i64 a.y, .int .i64 b.x, .int .i64 b.y] ∧ Grew w 1 W) ?_ ?_
  · exact ⟨var4_new _ _ _ _ _ _ _ rfl, by repeat (first | (with_reducible exact Below.refl _ _) | (with_reducible refine bl_alloc ?_ _) | (with_reducible refine Below.drew ?_) | (with_reducible refine below_drewN' ?_ _) | ((with_reducible refine bl_set ?_ ?_ _); (rotate_left; (dsimp only; omega)))), by simp⟩
  rintro W0 ⟨v1, hG⟩
  have HG := hi hG
  obtain ⟨c0, c1, c2, c3⟩ := v1.four
  clear v1 hG
  cases e
  · go_wp2_with fail
    refine (fits2 _ a b _ f HF.out).mono ?_
    rintro e w1 ⟨rfl, hb1⟩
    go_wp2
    go_ret
    exact ⟨by rw [HP.out]; rfl, (HG.out.below (bl_trans (bl_one _ _) hb1)).hb⟩
  · go_wp2
    go_ret
    exact ⟨by rw [HP.out]; rfl, HG.out.hb⟩

set_option maxHeartbeats 1000000 in
set_option maxRecDepth 100000 in
theorem inside_l (a b p : Pt) (w : World) : Calls Try.prog 77 #[.agg #[.int .i64 a.x, .int .i64 a.y], .agg #[.int .i64 b.x, .int .i64 b.y], .agg #[.int .i64 p.x, .int .i64 p.y]] w (Gives (.bool (insideB a b p)) w) := by
  have C1 := hi (fun W => orient_l a b p W)
  have C2 := hi (fun W => inDisc_l a b p W)
  have HP : Hid (insideB a b p = (decide (orientZ a b p = 0) && discB a b p)) := rfl
  generalize orientZ a b p = o at *
  generalize discB a b p = d at *
  have hcase : ((o == 0) = true ∧ decide (o = 0) = true) ∨ ((o == 0) = false ∧ decide (o = 0) = false) := by by_cases h : o = 0 <;> simp [h]
  rcases hcase with ⟨b1, b2⟩ | ⟨b1, b2⟩
  all_goals
    have HB := hi b2
    clear b2
    go_enter Try.func77, Try.ntmps77
    go_upto_region 1 with (fail)
    refine wp_abs (fun W => Var W w.heap.size [.int .i64 a.x, .int .i64 a.y] ∧ Var W (w.heap.size + 1) [.int .i64 b.x, .int .i64 b.y] ∧ Var W (w.heap.size + 2) [.int .i64 p.x, .int .i64 p.y] ∧ Grew w 3 W) ?_ ?_
    · exact ⟨(var2_new _ _ _ _ _ rfl).below (bl_alloc (bl_one _ _) _), (var2_new _ _ _ _ _ (by simp)).below (bl_one _ _), var2_new _ _ _ _ _ (by simp), by repeat (first | (with_reducible exact Below.refl _ _) | (with_reducible refine bl_alloc ?_ _) | (with_reducible refine Below.drew ?_) | (with_reducible refine below_drewN' ?_ _) | ((with_reducible refine bl_set ?_ ?_ _); (rotate_left; (dsimp only; omega)))), by simp⟩
    rintro W0 ⟨v1, v2, v3, hG⟩
    have HV := hi (And.intro v1 (And.intro v2 (And.intro v3 hG)))
    obtain ⟨c0, c1⟩ := v1.two
    obtain ⟨c2, c3⟩ := v2.two
    obtain ⟨c4, c5⟩ := v3.two
    clear v1 v2 v3 hG
    go_wp2_with fail
    (with_reducible refine (C1.out _).mono ?_); rintro e w1 ⟨rfl, hb1⟩
    obtain ⟨d0, d1⟩ := (HV.out.1.below hb1).two
    obtain ⟨d2, d3⟩ := (HV.out.2.1.below hb1).two
    obtain ⟨d4, d5⟩ := (HV.out.2.2.1.below hb1).two
    have HG := hi (HV.out.2.2.2.below hb1)
    clear c0 c1 c2 c3 c4 c5 hb1 HV
    first
      | (go_wp2_with fail
         (with_reducible refine (C2.out _).mono ?_); rintro e w2 ⟨rfl, hb2⟩
         go_wp2
         go_ret
         exact ⟨by rw [HP.out, HB.out]; rfl, (HG.out.below hb2).hb⟩)
      | (go_wp2
         go_ret
         exact ⟨by rw [HP.out, HB.out]; rfl, HG.out.hb⟩)

set_option maxHeartbeats 2000000 in
set_option maxRecDepth 100000 in
theorem on_l (a b p : Pt) (w : World) : Calls Try.prog 66 #[.agg #[.int .i64 a.x, .int .i64 a.y], .agg #[.int .i64 b.x, .int .i64 b.y], .agg #[.int .i64 p.x, .int .i64 p.y]] w (Gives (.bool (onB a b p)) w) := by
  have C1 := hi (fun W => proper_l a b W)
  have C2 := hi (fun W => inside_l a b p W)
  have q1 := eqPt' p a
  have q2 := eqPt' p b
  have HP : Hid (onB a b p = (properB a b && ((eqB p a || eqB p b) || insideB a b p))) := rfl
  generalize properB a b = pr at *
  generalize insideB a b p = ins at *
  generalize eqB p a = e1 at *
  generalize eqB p b = e2 at *
  go_enter Try.func66, Try.ntmps66
  go_upto_region 1 with (fail)
  refine wp_abs (fun W => Var W w.heap.size [.int .i64 a.x, .int .i64 a.y] ∧ Var W (w.heap.size + 1) [.int .i64 b.x, .int .i64 b.y] ∧ Var W (w.heap.size + 2) [.int .i64 p.x, .int .i64 p.y] ∧ Grew w 3 W) ?_ ?_
  · exact ⟨(var2_new _ _ _ _ _ rfl).below (bl_alloc (bl_one _ _) _), (var2_new _ _ _ _ _ (by simp)).below (bl_one _ _), var2_new _ _ _ _ _ (by simp), by repeat (first | (with_reducible exact Below.refl _ _) | (with_reducible refine bl_alloc ?_ _) | (with_reducible refine Below.drew ?_) | (with_reducible refine below_drewN' ?_ _) | ((with_reducible refine bl_set ?_ ?_ _); (rotate_left; (dsimp only; omega)))), by simp⟩
  rintro W0 ⟨v1, v2, v3, hG⟩
  have HV := hi (And.intro v1 (And.intro v2 (And.intro v3 hG)))
  obtain ⟨c0, c1⟩ := v1.two
  obtain ⟨c2, c3⟩ := v2.two
  obtain ⟨c4, c5⟩ := v3.two
  clear v1 v2 v3 hG
  go_cut [7] (fun bv W => bv = .bool (e1 || e2) ∧ W = W0)
  case first =>
    cases e1 <;> cases e2
    all_goals
      go_wp2_with fail
      go_meet
      case rel => exact ⟨rfl, rfl⟩
  case rest =>
  obtain ⟨rfl, rfl⟩ := hcut
  clear q1 q2
  have HO : Hid (onB a b p = (pr && ((e1 || e2) || ins))) := HP.out
  generalize (e1 || e2) = e at *
  go_wp2_with fail
  (with_reducible refine (C1.out _).mono ?_); rintro e' w1 ⟨rfl, hb1⟩
  obtain ⟨d0, d1⟩ := (HV.out.1.below hb1).two
  obtain ⟨d2, d3⟩ := (HV.out.2.1.below hb1).two
  obtain ⟨d4, d5⟩ := (HV.out.2.2.1.below hb1).two
  have HG := hi (HV.out.2.2.2.below hb1)
  clear c0 c1 c2 c3 c4 c5 hb1 HV
  cases pr <;> cases e
  all_goals
    first
      | (go_wp2_with fail
         (with_reducible refine (C2.out _).mono ?_); rintro e w2 ⟨rfl, hb2⟩
         go_wp2
         go_ret
         exact ⟨by rw [HO.out]; rfl, (HG.out.below hb2).hb⟩)
      | (go_wp2
         go_ret
         exact ⟨by rw [HO.out]; rfl, HG.out.hb⟩)
end Go.Proofs.Ytkidphekfnmhhaa

/-
  Contracts of meet's holds, joined, apart, along.
-/
namespace Go.Proofs.Ytkidphekfnmhhaa
open Go.RowKit

end Go.Proofs.Ytkidphekfnmhhaa

/-
  '==' of two segments; contract of meet's along.
-/
namespace Go.Proofs.Ytkidphekfnmhhaa
open Go.RowKit

set_option maxRecDepth 100000 in
theorem eqSeg (a b c d : Pt) (w : World) : (Op.equalIn 10000 118 (.agg #[.int .i64 a.x, .int .i64 a.y, .int .i64 b.x, .int .i64 b.y]) (.agg #[.int .i64 c.x, .int .i64 c.y, .int .i64 d.x, .int .i64 d.y])).run Try.prog w = .ok (eqB a c && eqB b d) w := by
  have u3 := Try.underlying25
  have a3 := Try.isAgg25
  have z3 := Try.sizeOf25
  have u4 := Try.underlying3
  rw [show (10000 : Nat) = 9999 + 1 from rfl, Op.equalIn]
  simp only [Sem.run_bind, run_underlying Try.underlying118, Result.andThen_ok]
  simp only [Std.Legacy.Range.forIn_eq_forIn_range', Std.Legacy.Range.size, Nat.sub_zero, Nat.add_sub_cancel, Nat.div_one, List.range'_succ, List.range'_zero, List.forIn_cons, List.forIn_nil]
  go_simp
  have e1 : (a = c) ↔ (a.x = c.x ∧ a.y = c.y) := ⟨fun h => by rw [h]; exact ⟨rfl, rfl⟩, fun h => Pt.ext' h.1 h.2⟩
  have e2 : (b = d) ↔ (b.x = d.x ∧ b.y = d.y) := ⟨fun h => by rw [h]; exact ⟨rfl, rfl⟩, fun h => Pt.ext' h.1 h.2⟩
  by_cases h1 : a.x = c.x <;> by_cases h2 : a.y = c.y <;> by_cases h3 : b.x = d.x <;> by_cases h4 : b.y = d.y <;> simp [eqB, e1, e2, h1, h2, h3, h4]

end Go.Proofs.Ytkidphekfnmhhaa

/-
  Contract of meet's apart.
-/
namespace Go.Proofs.Ytkidphekfnmhhaa
open Go.RowKit

end Go.Proofs.Ytkidphekfnmhhaa

/-
  Contract of meet's common.
-/
namespace Go.Proofs.Ytkidphekfnmhhaa
open Go.RowKit

theorem dec2 (x y : Int) : ((x == y) = true ∧ decide (x = y) = true) ∨ ((x == y) = false ∧ decide (x = y) = false) := by by_cases h : x = y <;> simp [h]
theorem sides_eq (s0 s1 t0 t1 al : Int) (jo : Bool) : sidesZ s0 s1 t0 t1 al jo = if decide (s0 = 0) && decide (s1 = 0) then al else if decide (s0 = s1) || decide (t0 = t1) then 0 else if decide (s0 = -s1) && decide (t0 = -t1) then 3 else if jo then 1 else 2 := by
  unfold sidesZ; simp only [Bool.and_eq_true, Bool.or_eq_true, decide_eq_true_eq]
theorem negs {x : Int} (h : x = -1 ∨ x = 0 ∨ x = 1) : IntKind.i64.wrap (-x) = -x ∧ wrap64 (-x) = -x := ⟨IntWalk.i64_in _ (by omega), by unfold wrap64; omega⟩

end Go.Proofs.Ytkidphekfnmhhaa

/-
  Contract of meet's Segs.
-/
namespace Go.Proofs.Ytkidphekfnmhhaa
open Go.RowKit

end Go.Proofs.Ytkidphekfnmhhaa

/-
  The law's known of layer 4; the document's Fits; the law's p.
-/
namespace Go.Proofs.Ytkidphekfnmhhaa
open Go.RowKit

set_option maxHeartbeats 1000000 in
set_option maxRecDepth 100000 in
theorem refFits_l (a : Pt) (w : World) : Calls Try.prog 24 #[.agg #[.int .i64 a.x, .int .i64 a.y]] w (Gives (.bool (fitB a)) w) := by
  go_enter Try.func24, Try.ntmps24
  go_upto_region 1 with (fail)
  refine wp_abs (fun W => Var W w.heap.size [.int .i64 a.x, .int .i64 a.y] ∧ Grew w 1 W) ?_ ?_
  · exact ⟨var2_new _ _ _ _ _ rfl, by repeat (first | (with_reducible exact Below.refl _ _) | (with_reducible refine bl_alloc ?_ _) | (with_reducible refine Below.drew ?_) | (with_reducible refine below_drewN' ?_ _) | ((with_reducible refine bl_set ?_ ?_ _); (rotate_left; (dsimp only; omega)))), by simp⟩
  rintro W0 ⟨v1, hG⟩
  have HG := hi hG
  obtain ⟨c0, c1⟩ := v1.two
  clear v1 hG
  rcases Int.lt_or_le a.x (-4294967296) with h1 | h1
  · have b1 : decide (-4294967296 ≤ a.x) = false := by simp; omega
    have HF : Hid (fitB a = false) := fitB_no (by unfold Pt.fits; omega)
    clear h1
    go_wp2
    go_ret
    exact ⟨by rw [HF.out]; rfl, HG.out.hb⟩
  have b1 : decide (-4294967296 ≤ a.x) = true := by simp; omega
  rcases Int.lt_or_le 4294967296 a.x with h2 | h2
  · have b2 : decide (a.x ≤ 4294967296) = false := by simp; omega
    have HF : Hid (fitB a = false) := fitB_no (by unfold Pt.fits; omega)
    clear h1 h2
    go_wp2
    go_ret
    exact ⟨by rw [HF.out]; rfl, HG.out.hb⟩
  have b2 : decide (a.x ≤ 4294967296) = true := by simp; omega
  rcases Int.lt_or_le a.y (-4294967296) with h3 | h3
  · have b3 : decide (-4294967296 ≤ a.y) = false := by simp; omega
    have HF : Hid (fitB a = false) := fitB_no (by unfold Pt.fits; omega)
    clear h1 h2 h3
    go_wp2
    go_ret
    exact ⟨by rw [HF.out]; rfl, HG.out.hb⟩
  have b3 : decide (-4294967296 ≤ a.y) = true := by simp; omega
  rcases Int.lt_or_le 4294967296 a.y with h4 | h4
  · have b4 : decide (a.y ≤ 4294967296) = false := by simp; omega
    have HF : Hid (fitB a = false) := fitB_no (by unfold Pt.fits; omega)
    clear h1 h2 h3 h4
    go_wp2
    go_ret
    exact ⟨by rw [HF.out]; rfl, HG.out.hb⟩
  have b4 : decide (a.y ≤ 4294967296) = true := by simp; omega
  have HF : Hid (fitB a = true) := fitB_yes (by unfold Pt.fits; omega)
  clear h1 h2 h3 h4
  go_wp2
  go_ret
  exact ⟨by rw [HF.out]; rfl, HG.out.hb⟩

theorem on_at (a b c : Pt) (r : Bool) (h : onB a b c = r) (w : World) : Calls Try.prog 66 #[.agg #[.int .i64 a.x, .int .i64 a.y], .agg #[.int .i64 b.x, .int .i64 b.y], .agg #[.int .i64 c.x, .int .i64 c.y]] w (Gives (.bool r) w) := by
  subst h; exact on_l a b c w
theorem inside_at (a b c : Pt) (r : Bool) (h : insideB a b c = r) (w : World) : Calls Try.prog 77 #[.agg #[.int .i64 a.x, .int .i64 a.y], .agg #[.int .i64 b.x, .int .i64 b.y], .agg #[.int .i64 c.x, .int .i64 c.y]] w (Gives (.bool r) w) := by
  subst h; exact inside_l a b c w

end Go.Proofs.Ytkidphekfnmhhaa
