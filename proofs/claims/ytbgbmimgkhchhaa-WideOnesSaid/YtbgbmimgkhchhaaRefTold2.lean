/-
  The document's told.
-/
import Derived.Test.YtbgbmimgkhchhaaRefTold
import Derived.Test.YtbgbmimgkhchhaaEnvN
namespace Go.Proofs.Ytbgbmimgkhchhaa
open Go.RowKit

set_option maxHeartbeats 1000000 in
set_option maxRecDepth 100000 in
theorem told_num (v : Value) (z : Int) (w : World) (h : NumIs v z w) : Calls Try.prog 43 #[v] w (WideP z w) := by
  obtain ⟨m, ad, n, c, rfl⟩ := h.shape
  have H := Lib.hid h
  clear h
  go_enter Try.func43, Try.ntmps43
  go_wp2_with fail
  refine (wide_num _ z _ (H.out.below (bl_trans (bl_one _ _) (bl_one _ _)))).mono ?_
  rintro e w1 ⟨rm, r0, r1, r2, r3, ok, hi, hk, rfl, hb1⟩
  have hs1 : w.heap.size + 2 ≤ w1.heap.size := (by have := hb1.size; (try simp at this); omega)
  obtain ⟨-, ⟨v0, v1, v2, v3, v4⟩, ⟨f0, f1, f2, f3, f4⟩⟩ := (var_new w.heap.size (w.alloc (.cells #[.bool m, .slice ad n c] 28)) (by simp) (w.heap.size + 1) (by simp) 25).below hb1
  simp only [Nat.zero_add] at v1 v2 v3 v4 f1 f2 f3 f4
  have hs2 : w.heap.size + 1 < w1.heap.size := by omega
  have HI := Lib.hid hi
  have hbw : Hid (Below w.heap.size w w1) := bl_trans (bl_trans (bl_one _ _) (bl_one _ _)) hb1
  clear hi hb1
  cases ok
  · have hz : Hid ((rm = false ∧ r0 = 0 ∧ r1 = 0 ∧ r2 = 0 ∧ r3 = 0) ∧ (z ≤ -M256 ∨ M256 ≤ z)) := by
      rcases hk.out with ⟨h, -⟩ | ⟨-, h⟩
      · cases h
      · exact h
    clear hk
    go_wp2
    refine bodyPost_ret (v := .tuple #[(.agg #[.bool false, .int .u64 0, .int .u64 0, .int .u64 0, .int .u64 0]), .int .i64 10]) (by simp [results, Try.results43, go_sem, v0, v1, v2, v3, v4, hs2]) rfl ?_
    refine wideP_no hz.out.2 ?_
    have hb := hbw.out
    repeat (first | (with_reducible exact Below.refl _ _) | (with_reducible refine bl_alloc ?_ _) | (with_reducible refine Below.drew ?_) | (with_reducible refine below_drewN' ?_ _) | ((with_reducible refine bl_set ?_ ?_ _); (rotate_left; (dsimp only; omega))))
    exact hb
  · have hz : Hid (WV rm r0 r1 r2 r3 = z ∧ Norm rm r0 r1 r2 r3 ∧ -M256 < z ∧ z < M256) := by
      rcases hk.out with ⟨-, h⟩ | ⟨h, -⟩
      · exact h
      · cases h
    clear hk
    go_wp2
    refine bodyPost_ret (v := .tuple #[(.agg #[.bool rm, .int .u64 r0, .int .u64 r1, .int .u64 r2, .int .u64 r3]), .int .i64 0]) (by simp [results, Try.results43, go_sem, v0, v1, v2, v3, v4, hs2]) rfl ?_
    refine wideP_ok HI.out hz.out ?_
    have hb := hbw.out
    repeat (first | (with_reducible exact Below.refl _ _) | (with_reducible refine bl_alloc ?_ _) | (with_reducible refine Below.drew ?_) | (with_reducible refine below_drewN' ?_ _) | ((with_reducible refine bl_set ?_ ?_ _); (rotate_left; (dsimp only; omega))))
    exact hb
end Go.Proofs.Ytbgbmimgkhchhaa
