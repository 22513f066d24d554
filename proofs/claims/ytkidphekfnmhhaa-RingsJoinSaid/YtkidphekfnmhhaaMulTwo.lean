/-
  Contract of wide.mulTwo.
-/
import Derived.Test.YtkidphekfnmhhaaTwo
import Derived.Test.YtkidphekfnmhhaaMulL
namespace Go.Proofs.Ytkidphekfnmhhaa
open Go.RowKit
attribute [local go_sem ↓] Go.wp_at_zero Go.wp_at_succ

theorem wv_mul (m n : Bool) (A B : Int) : (if m then -A else A) * (if n then -B else B) = if (m != n) then -(A * B) else A * B := by
  cases m <;> cases n <;> simp [Int.neg_mul, Int.mul_neg]
theorem mul_ok {m n : Bool} {S T A B : Int} (h0 : T = 0) (h : S + M256 * T = A * B) : (if (m != n) then -S else S) = (if m then -A else A) * (if n then -B else B) := by
  subst h0
  rw [wv_mul, ← h, Int.mul_zero, Int.add_zero]
theorem mul_no {m n : Bool} {S T A B : Int} (hS : 0 ≤ S ∧ S < M256) (hT : 0 ≤ T ∧ T < M256) (h0 : T ≠ 0) (h : S + M256 * T = A * B) : (if m then -A else A) * (if n then -B else B) ≤ -M256 ∨ M256 ≤ (if m then -A else A) * (if n then -B else B) := by
  rw [wv_mul, ← h]
  have : M256 ≤ S + M256 * T := by
    have h1 : 1 ≤ T := by omega
    clear h h0
    unfold M256 at *; omega
  split <;> omega

set_option maxHeartbeats 2000000 in
set_option maxRecDepth 100000 in
theorem mulTwo_c (m n : Bool) (a b c d x y z u : Int) (hA : In4 a b c d) (hX : In4 x y z u) (w : World) :
    Calls Try.prog 74 #[(.agg #[.bool m, .int .u64 a, .int .u64 b, .int .u64 c, .int .u64 d]), (.agg #[.bool n, .int .u64 x, .int .u64 y, .int .u64 z, .int .u64 u])] w (WideP (WV m a b c d * WV n x y z u) w) := by
  have HA := hid_mk hA
  have HX := hid_mk hX
  clear hA hX
  go_enter Try.func74, Try.ntmps74
  go_wp2_with fail
  refine (mulLimbs_c a b c d x y z u HA.out HX.out _).mono ?_
  rintro e w1 ⟨s0, s1, s2, s3, t0, t1, t2, t3, hs, ht, hv, rfl, hb⟩
  obtain ⟨hc, hf⟩ := bcell hb
  obtain ⟨zb, hz, he⟩ := isz t0 t1 t2 t3 ht
  have hz0 : w.heap.size < w1.heap.size := by have := hb.size; simp at this; omega
  have hz1 : w.heap.size + 1 < w1.heap.size := by have := hb.size; simp at this; omega
  have hz2 : w.heap.size + 1 + 1 < w1.heap.size := by have := hb.size; simp at this; omega
  have hz3 : w.heap.size + 1 + 1 < w1.heap.size + 1 := by omega
  have hz4 : w.heap.size < w1.heap.size + 1 := by omega
  have hz5 : w.heap.size + 1 < w1.heap.size + 1 := by omega
  cases zb
  · go_wp2
    refine bodyPost_ret (v := .tuple #[(.agg #[.bool false, .int .u64 0, .int .u64 0, .int .u64 0, .int .u64 0]), .int .i64 10]) (by simp [results, Try.results74, go_sem, hz2, hz3, hc]) rfl (wideP_no ?_ (by repeat (first | (with_reducible exact Below.refl _ _) | (with_reducible refine bl_alloc ?_ _) | (with_reducible refine Below.drew ?_) | (with_reducible refine below_drewN' ?_ _) | (with_reducible refine bl_trans ?_ hb) | ((with_reducible refine bl_set ?_ ?_ _); (rotate_left; (dsimp only; omega))))))
    exact mul_no (v4_bounds hs) (v4_bounds ht) (fun h => absurd (hz.out.2 h) (by simp)) hv.out
  · go_wp2_with fail
    refine (signed_c (m != n) s0 s1 s2 s3 hs _).mono ?_
    rintro e w2 ⟨m', hm, rfl, hb2⟩
    obtain ⟨hc2, hf2⟩ := bcell hb2
    have hy1 : w.heap.size + 1 + 1 < w1.heap.size + 1 + 1 := by omega
    have hy2 : w.heap.size + 1 + 1 < w2.heap.size := by have := hb2.size; simp at this; omega
    go_wp2
    refine bodyPost_ret (v := .tuple #[(.agg #[.bool m', .int .u64 s0, .int .u64 s1, .int .u64 s2, .int .u64 s3]), .int .i64 0]) (by simp [results, Try.results74, go_sem, hc2, hc, hz2, hz3, hy1]) rfl (wideP_ok hs ?_ (by repeat (first | (with_reducible exact Below.refl _ _) | (with_reducible refine bl_alloc ?_ _) | (with_reducible refine Below.drew ?_) | (with_reducible refine below_drewN' ?_ _) | (with_reducible refine bl_trans ?_ hb) | (with_reducible refine bl_trans ?_ hb2) | ((with_reducible refine bl_set ?_ ?_ _); (rotate_left; (dsimp only; omega))))))
    exact wide_ok hs hm.out (mul_ok (hz.out.1 (by simp)) hv.out)
end Go.Proofs.Ytkidphekfnmhhaa
