/-
  The document's Fits (layer 3), where layer 4 is not wanted.
-/
import Derived.Test.YtojfggnimmaemaaGeos
namespace Go.Proofs.Ytojfggnimmaemaa
open Go.RowKit

set_option maxHeartbeats 1000000 in
set_option maxRecDepth 100000 in
theorem refFits3_l (a : Pt) (w : World) : Calls Try.prog 33 #[.agg #[.int .i64 a.x, .int .i64 a.y]] w (Gives (.bool (fitB a)) w) := by
  go_enter Try.func33, Try.ntmps33
  go_upto_region 1 with (fail)
  refine wp_abs (fun W => Var W w.heap.size [.int .i64 a.x, .int .i64 a.y] ∧ Grew w 1 W) ?_ ?_
  · exact ⟨var2_new _ _ _ _ _ rfl, by repeat (first | (with_reducible exact Below.refl _ _) | (with_reducible refine bl_alloc ?_ _) | (with_reducible refine Below.drew ?_) | (with_reducible refine below_drewN' ?_ _) | ((with_reducible refine bl_set ?_ ?_ _); (rotate_left; (dsimp only; omega)))), by simp⟩
  rintro W0 ⟨v1, hG⟩
  have HG := hi hG
  obtain ⟨c0, c1⟩ := v1.two
  clear v1 hG
  rcases Int.lt_or_le a.x (-4294967296) with h1 | h1
  · have b1 : decide (-4294967296 ≤ a.x) = false := by simp; omega
    have HF : Hid (fitB a = false) := fitB_no (by unfold Pt.fits; omega)
    clear h1
    go_wp2
    go_ret
    exact ⟨by rw [HF.out]; rfl, HG.out.hb⟩
  have b1 : decide (-4294967296 ≤ a.x) = true := by simp; omega
  rcases Int.lt_or_le 4294967296 a.x with h2 | h2
  · have b2 : decide (a.x ≤ 4294967296) = false := by simp; omega
    have HF : Hid (fitB a = false) := fitB_no (by unfold Pt.fits; omega)
    clear h1 h2
    go_wp2
    go_ret
    exact ⟨by rw [HF.out]; rfl, HG.out.hb⟩
  have b2 : decide (a.x ≤ 4294967296) = true := by simp; omega
  rcases Int.lt_or_le a.y (-4294967296) with h3 | h3
  · have b3 : decide (-4294967296 ≤ a.y) = false := by simp; omega
    have HF : Hid (fitB a = false) := fitB_no (by unfold Pt.fits; omega)
    clear h1 h2 h3
    go_wp2
    go_ret
    exact ⟨by rw [HF.out]; rfl, HG.out.hb⟩
  have b3 : decide (-4294967296 ≤ a.y) = true := by simp; omega
  rcases Int.lt_or_le 4294967296 a.y with h4 | h4
  · have b4 : decide (a.y ≤ 4294967296) = false := by simp; omega
    have HF : Hid (fitB a = false) := fitB_no (by unfold Pt.fits; omega)
    clear h1 h2 h3 h4
    go_wp2
    go_ret
    exact ⟨by rw [HF.out]; rfl, HG.out.hb⟩
  have b4 : decide (a.y ≤ 4294967296) = true := by simp; omega
  have HF : Hid (fitB a = true) := fitB_yes (by unfold Pt.fits; omega)
  clear h1 h2 h3 h4
  go_wp2
  go_ret
  exact ⟨by rw [HF.out]; rfl, HG.out.hb⟩

end Go.Proofs.Ytojfggnimmaemaa
