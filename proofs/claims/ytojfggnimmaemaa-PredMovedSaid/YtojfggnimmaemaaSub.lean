/-
  Contract of wide.Sub.
-/
import Derived.Test.YtojfggnimmaemaaTwo
namespace Go.Proofs.Ytojfggnimmaemaa
open Go.RowKit
attribute [local go_sem ↓] Go.wp_at_zero Go.wp_at_succ

set_option maxHeartbeats 4000000 in
set_option maxRecDepth 100000 in
theorem sub_c (m n : Bool) (a b c d x y z u : Int) (hA : In4 a b c d) (hX : In4 x y z u) (w : World) :
    Calls Try.prog 94 #[(.agg #[.bool m, .int .u64 a, .int .u64 b, .int .u64 c, .int .u64 d]), (.agg #[.bool n, .int .u64 x, .int .u64 y, .int .u64 z, .int .u64 u])] w (WideP (WV m a b c d - WV n x y z u) w) := by
  have HA := hid_mk hA
  have HX := hid_mk hX
  clear hA hX
  go_enter Try.func94, Try.ntmps94
  go_wp2_with fail
  go_region_with (first | (go_at_call 110; refine (neg_c n x y z u HX.out _).mono ?_; rintro e w1 ⟨n', hn, rfl, hb⟩; obtain ⟨hc, hf⟩ := bcell hb; have hz0 : w.heap.size < w1.heap.size := (by have := hb.size; simp at this; omega); have hz1 : w.heap.size + 1 < w1.heap.size := (by have := hb.size; simp at this; omega); have hz2 : w.heap.size + 1 + 1 < w1.heap.size := (by have := hb.size; simp at this; omega)) | (go_at_call 101; refine (addTwo_c m n' a b c d x y z u HA.out HX.out _).mono ?_; rintro e w2 ⟨m2, s0, s1, s2, s3, er, hs, hv, rfl, hb2⟩; obtain ⟨hc2, hf2⟩ := bcell hb2; have hy0 : w.heap.size + 1 + 1 < w2.heap.size := (by have := hb2.size; (try simp at this); omega)))
  all_goals
    go_wp2
    refine bodyPost_ret (v := .tuple #[(.agg #[.bool m2, .int .u64 s0, .int .u64 s1, .int .u64 s2, .int .u64 s3]), .int .i64 er]) (by simp [results, Try.results94, go_sem, hc2, hc, hz2]) rfl ⟨m2, s0, s1, s2, s3, er, hs, ?_, rfl, by repeat (first | (with_reducible exact Below.refl _ _) | (with_reducible refine bl_alloc ?_ _) | (with_reducible refine Below.drew ?_) | (with_reducible refine below_drewN' ?_ _) | (with_reducible refine bl_trans ?_ hb) | (with_reducible refine bl_trans ?_ hb2) | ((with_reducible refine bl_set ?_ ?_ _); (rotate_left; (dsimp only; omega))))⟩
    have e1 := norm_of hn.out
    have e2 : WV m a b c d - WV n x y z u = WV m a b c d + WV n' x y z u := by rw [e1.1]; unfold WV; cases n <;> simp <;> omega
    rw [e2]
    exact hv.out

end Go.Proofs.Ytojfggnimmaemaa
