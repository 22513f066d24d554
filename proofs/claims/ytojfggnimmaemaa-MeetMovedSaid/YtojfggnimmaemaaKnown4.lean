/-
  The law's known of layer 4; the document's Fits; the law's p.
-/
import Derived.Test.YtojfggnimmaemaaSegs
namespace Go.Proofs.Ytojfggnimmaemaa
open Go.RowKit

set_option maxHeartbeats 1000000 in
set_option maxRecDepth 100000 in
theorem p_l (x y : Int) (w : World) : Calls Try.prog 54 #[.int .i64 x, .int .i64 y] w (Gives (.agg #[.int .i64 x, .int .i64 y]) w) := by
  go_enter Try.func54, Try.ntmps54
  go_wp2
  refine bodyPost_ret (v := .agg #[.int .i64 x, .int .i64 y]) (by simp [results, Try.results54, go_sem]; done) rfl ⟨rfl, by repeat (first | (with_reducible exact Below.refl _ _) | (with_reducible refine bl_alloc ?_ _) | (with_reducible refine Below.drew ?_) | (with_reducible refine below_drewN' ?_ _) | ((with_reducible refine bl_set ?_ ?_ _); (rotate_left; (dsimp only; omega))))⟩

set_option maxHeartbeats 1000000 in
set_option maxRecDepth 100000 in
theorem refFits_l (a : Pt) (w : World) : Calls Try.prog 33 #[.agg #[.int .i64 a.x, .int .i64 a.y]] w (Gives (.bool (fitB a)) w) := by
  go_enter Try.func33, Try.ntmps33
  go_upto_region 1 with (fail)
  refine wp_abs (fun W => Var W w.heap.size [.int .i64 a.x, .int .i64 a.y] ∧ Grew w 1 W) ?_ ?_
  · exact ⟨var2_new _ _ _ _ _ rfl, by repeat (first | (with_reducible exact Below.refl _ _) | (with_reducible refine bl_alloc ?_ _) | (with_reducible refine Below.drew ?_) | (with_reducible refine below_drewN' ?_ _) | ((with_reducible refine bl_set ?_ ?_ _); (rotate_left; (dsimp only; omega)))), by simp⟩
  rintro W0 ⟨v1, hG⟩
  have HG := Lib.hid hG
  obtain ⟨c0, c1⟩ := v1.two
  clear v1 hG
  rcases Int.lt_or_le a.x (-4294967296) with h1 | h1
  · have b1 : decide (-4294967296 ≤ a.x) = false := by simp; omega
    have HF : Hid (fitB a = false) := fitB_no (by unfold Pt.fits; omega)
    clear h1
    go_wp2
    go_ret
    exact ⟨by rw [HF.out]; rfl, HG.out.hb⟩
  have b1 : decide (-4294967296 ≤ a.x) = true := by simp; omega
  rcases Int.lt_or_le 4294967296 a.x with h2 | h2
  · have b2 : decide (a.x ≤ 4294967296) = false := by simp; omega
    have HF : Hid (fitB a = false) := fitB_no (by unfold Pt.fits; omega)
    clear h1 h2
    go_wp2
    go_ret
    exact ⟨by rw [HF.out]; rfl, HG.out.hb⟩
  have b2 : decide (a.x ≤ 4294967296) = true := by simp; omega
  rcases Int.lt_or_le a.y (-4294967296) with h3 | h3
  · have b3 : decide (-4294967296 ≤ a.y) = false := by simp; omega
    have HF : Hid (fitB a = false) := fitB_no (by unfold Pt.fits; omega)
    clear h1 h2 h3
    go_wp2
    go_ret
    exact ⟨by rw [HF.out]; rfl, HG.out.hb⟩
  have b3 : decide (-4294967296 ≤ a.y) = true := by simp; omega
  rcases Int.lt_or_le 4294967296 a.y with h4 | h4
  · have b4 : decide (a.y ≤ 4294967296) = false := by simp; omega
    have HF : Hid (fitB a = false) := fitB_no (by unfold Pt.fits; omega)
    clear h1 h2 h3 h4
    go_wp2
    go_ret
    exact ⟨by rw [HF.out]; rfl, HG.out.hb⟩
  have b4 : decide (a.y ≤ 4294967296) = true := by simp; omega
  have HF : Hid (fitB a = true) := fitB_yes (by unfold Pt.fits; omega)
  clear h1 h2 h3 h4
  go_wp2
  go_ret
  exact ⟨by rw [HF.out]; rfl, HG.out.hb⟩

theorem segs_at (a b c d : Pt) (n e : Int) (hn : segsN a b c d = n) (he : segsE a b c d = e) (w : World) : Calls Try.prog 46 #[.agg #[.int .i64 a.x, .int .i64 a.y], .agg #[.int .i64 b.x, .int .i64 b.y], .agg #[.int .i64 c.x, .int .i64 c.y], .agg #[.int .i64 d.x, .int .i64 d.y]] w (Gives (.tuple #[.int .i64 n, .int .i64 e]) w) := by
  subst hn he; exact segs_l a b c d w
theorem on_at (a b c : Pt) (r : Bool) (h : onB a b c = r) (w : World) : Calls Try.prog 49 #[.agg #[.int .i64 a.x, .int .i64 a.y], .agg #[.int .i64 b.x, .int .i64 b.y], .agg #[.int .i64 c.x, .int .i64 c.y]] w (Gives (.bool r) w) := by
  subst h; exact on_l a b c w
theorem inside_at (a b c : Pt) (r : Bool) (h : insideB a b c = r) (w : World) : Calls Try.prog 51 #[.agg #[.int .i64 a.x, .int .i64 a.y], .agg #[.int .i64 b.x, .int .i64 b.y], .agg #[.int .i64 c.x, .int .i64 c.y]] w (Gives (.bool r) w) := by
  subst h; exact inside_l a b c w

set_option maxHeartbeats 4000000 in
set_option maxRecDepth 100000 in
theorem known4_l (w : World) : Calls Try.prog 48 #[] w (Gives (.bool true) w) := by
  have HB : Hid (Below w.heap.size w w) := Below.refl _ _
  go_enter Try.func48, Try.ntmps48
  go_wp2_with (first
    | (go_at_call 54; (with_reducible refine (p_l _ _ _).mono ?_); rintro e w1 ⟨rfl, hb1⟩; replace HB := Lib.hid (bl_trans HB.out hb1); clear hb1)
    | (go_at_call 46; (first
        | (with_reducible refine (segs_at ⟨0, 0⟩ ⟨4, 0⟩ ⟨2, -1⟩ ⟨2, 1⟩ 3 0 (by decide) (by decide) _).mono ?_)
        | (with_reducible refine (segs_at ⟨0, 0⟩ ⟨4, 0⟩ ⟨2, 0⟩ ⟨2, 1⟩ 2 0 (by decide) (by decide) _).mono ?_)
        | (with_reducible refine (segs_at ⟨0, 0⟩ ⟨4, 0⟩ ⟨4, 0⟩ ⟨5, 5⟩ 1 0 (by decide) (by decide) _).mono ?_)
        | (with_reducible refine (segs_at ⟨0, 0⟩ ⟨4, 0⟩ ⟨3, 0⟩ ⟨9, 0⟩ 4 0 (by decide) (by decide) _).mono ?_)
        | (with_reducible refine (segs_at ⟨0, 0⟩ ⟨4, 0⟩ ⟨4, 0⟩ ⟨9, 0⟩ 1 0 (by decide) (by decide) _).mono ?_)
        | (with_reducible refine (segs_at ⟨0, 0⟩ ⟨0, 0⟩ ⟨4, 0⟩ ⟨9, 0⟩ 0 2 (by decide) (by decide) _).mono ?_)); rintro e w1 ⟨rfl, hb1⟩; replace HB := Lib.hid (bl_trans HB.out hb1); clear hb1)
    | (go_at_call 49; (with_reducible refine (on_at ⟨0, 0⟩ ⟨4, 0⟩ ⟨4, 0⟩ true (by decide) _).mono ?_); rintro e w1 ⟨rfl, hb1⟩; replace HB := Lib.hid (bl_trans HB.out hb1); clear hb1)
    | (go_at_call 51; (with_reducible refine (inside_at ⟨0, 0⟩ ⟨4, 0⟩ ⟨4, 0⟩ false (by decide) _).mono ?_); rintro e w1 ⟨rfl, hb1⟩; replace HB := Lib.hid (bl_trans HB.out hb1); clear hb1))
  go_ret
  exact ⟨rfl, HB.out⟩
end Go.Proofs.Ytojfggnimmaemaa
