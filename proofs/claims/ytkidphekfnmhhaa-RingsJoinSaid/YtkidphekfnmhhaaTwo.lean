/-
  Contract of wide.addTwo: a sum of two Wides, or ErrRange.
-/
import Derived.Test.YtkidphekfnmhhaaTwoMath
namespace Go.Proofs.Ytkidphekfnmhhaa
open Go.RowKit

/-- a Wide of the number n, and OK; or the zero Wide and ErrRange, where n does not fit -/
def WideOk (n : Int) (m : Bool) (a b c d er : Int) : Prop :=
  (er = 0 ∧ WV m a b c d = n ∧ Norm m a b c d ∧ -M256 < n ∧ n < M256) ∨ (er = 10 ∧ (m = false ∧ a = 0 ∧ b = 0 ∧ c = 0 ∧ d = 0) ∧ (n ≤ -M256 ∨ M256 ≤ n))
def WideP (n : Int) (w : World) (e : Ending) (w' : World) : Prop :=
  ∃ (m : Bool) (a b c d er : Int), In4 a b c d ∧ Hid (WideOk n m a b c d er) ∧ e = .returned (.tuple #[(.agg #[.bool m, .int .u64 a, .int .u64 b, .int .u64 c, .int .u64 d]), .int .i64 er]) ∧ Below w.heap.size w w'
theorem wideP_ok {n : Int} {m : Bool} {a b c d : Int} {w w' : World} (h : In4 a b c d) (k : WV m a b c d = n ∧ Norm m a b c d ∧ -M256 < n ∧ n < M256) (hb : Below w.heap.size w w') : WideP n w (.returned (.tuple #[(.agg #[.bool m, .int .u64 a, .int .u64 b, .int .u64 c, .int .u64 d]), .int .i64 0])) w' :=
  ⟨m, a, b, c, d, 0, h, Or.inl ⟨rfl, k⟩, rfl, hb⟩
theorem wideP_no {n : Int} {w w' : World} (k : n ≤ -M256 ∨ M256 ≤ n) (hb : Below w.heap.size w w') : WideP n w (.returned (.tuple #[(.agg #[.bool false, .int .u64 0, .int .u64 0, .int .u64 0, .int .u64 0]), .int .i64 10])) w' :=
  ⟨false, 0, 0, 0, 0, 10, in4_zero, Or.inr ⟨rfl, ⟨rfl, rfl, rfl, rfl, rfl⟩, k⟩, rfl, hb⟩

set_option maxHeartbeats 2000000 in
set_option maxRecDepth 100000 in
theorem addTwo_same (m : Bool) (a b c d x y z u : Int) (hA : In4 a b c d) (hX : In4 x y z u) (w : World) :
    Calls Try.prog 75 #[(.agg #[.bool m, .int .u64 a, .int .u64 b, .int .u64 c, .int .u64 d]), (.agg #[.bool m, .int .u64 x, .int .u64 y, .int .u64 z, .int .u64 u])] w (WideP (WV m a b c d + WV m x y z u) w) := by
  have HA := hid_mk hA
  have HX := hid_mk hX
  clear hA hX
  go_enter Try.func75, Try.ntmps75
  go_wp2_with fail
  refine (addLimbs_c a b c d x y z u HA.out HX.out _).mono ?_
  rintro e w1 ⟨s0, s1, s2, s3, co, hs, hv, rfl, hb⟩
  obtain ⟨hc, hf⟩ := bcell hb
  have hz0 : w.heap.size < w1.heap.size := by have := hb.size; simp at this; omega
  have hz1 : w.heap.size + 1 < w1.heap.size := by have := hb.size; simp at this; omega
  have hz : w.heap.size + 1 + 1 < w1.heap.size := by have := hb.size; simp at this; omega
  rcases hv.out.1 with rfl | rfl
  · go_wp2_with fail
    refine (signed_c m s0 s1 s2 s3 hs _).mono ?_
    rintro e w2 ⟨m', hm, rfl, hb2⟩
    obtain ⟨hc2, hf2⟩ := bcell hb2
    have hz2 : w1.heap.size < w2.heap.size := by have := hb2.size; simp at this; omega
    have hz3 : w.heap.size + 1 + 1 < w1.heap.size + 1 := by omega
    have hz4 : ¬ (w.heap.size + 1 + 1 = w1.heap.size) := by omega
    go_wp2
    refine bodyPost_ret (v := .tuple #[(.agg #[.bool m', .int .u64 s0, .int .u64 s1, .int .u64 s2, .int .u64 s3]), .int .i64 0]) (by simp [results, Try.results75, go_sem, hc2, hz, hz3, hc]) rfl (wideP_ok hs ?_ (by repeat (first | (with_reducible exact Below.refl _ _) | (with_reducible refine bl_alloc ?_ _) | (with_reducible refine Below.drew ?_) | (with_reducible refine below_drewN' ?_ _) | (with_reducible refine bl_trans ?_ hb) | (with_reducible refine bl_trans ?_ hb2) | ((with_reducible refine bl_set ?_ ?_ _); (rotate_left; (dsimp only; omega))))))
    exact wide_ok hs hm.out (same_ok hv.out.2)
  · go_wp2
    refine bodyPost_ret (v := .tuple #[(.agg #[.bool false, .int .u64 0, .int .u64 0, .int .u64 0, .int .u64 0]), .int .i64 10]) (by simp [results, Try.results75, go_sem, hz, hc]) rfl (wideP_no ?_ (by repeat (first | (with_reducible exact Below.refl _ _) | (with_reducible refine bl_alloc ?_ _) | (with_reducible refine Below.drew ?_) | (with_reducible refine below_drewN' ?_ _) | (with_reducible refine bl_trans ?_ hb) | ((with_reducible refine bl_set ?_ ?_ _); (rotate_left; (dsimp only; omega))))))
    exact same_no (v4_bounds hs).1 hv.out.2

set_option maxHeartbeats 2000000 in
set_option maxRecDepth 100000 in
theorem addTwo_other (m n : Bool) (hmn : m = !n) (a b c d x y z u : Int) (hA : In4 a b c d) (hX : In4 x y z u) (w : World) :
    Calls Try.prog 75 #[(.agg #[.bool m, .int .u64 a, .int .u64 b, .int .u64 c, .int .u64 d]), (.agg #[.bool n, .int .u64 x, .int .u64 y, .int .u64 z, .int .u64 u])] w (WideP (WV m a b c d + WV n x y z u) w) := by
  have HA := hid_mk hA
  have HX := hid_mk hX
  have HM := hid_mk hmn
  have hne : (m == n) = false := by subst hmn; cases n <;> rfl
  clear hA hX hmn
  go_enter Try.func75, Try.ntmps75
  go_wp2_with fail
  refine (subLimbs_c a b c d x y z u HA.out HX.out _).mono ?_
  rintro e w1 ⟨s0, s1, s2, s3, co, hs, hv, rfl, hb⟩
  obtain ⟨hc, hf⟩ := bcell hb
  have hz0 : w.heap.size < w1.heap.size := by have := hb.size; simp at this; omega
  have hz1 : w.heap.size + 1 < w1.heap.size := by have := hb.size; simp at this; omega
  have hz : w.heap.size + 1 + 1 < w1.heap.size := by have := hb.size; simp at this; omega
  rcases hv.out.1 with rfl | rfl
  · go_wp2_with fail
    refine (signed_c m s0 s1 s2 s3 hs _).mono ?_
    rintro e w2 ⟨m', hm, rfl, hb2⟩
    obtain ⟨hc2, hf2⟩ := bcell hb2
    have hz2 : w1.heap.size < w2.heap.size := by have := hb2.size; simp at this; omega
    have hz3 : w.heap.size + 1 + 1 < w1.heap.size + 1 := by omega
    have hz4 : ¬ (w.heap.size + 1 + 1 = w1.heap.size) := by omega
    go_wp2
    refine bodyPost_ret (v := .tuple #[(.agg #[.bool m', .int .u64 s0, .int .u64 s1, .int .u64 s2, .int .u64 s3]), .int .i64 0]) (by simp [results, Try.results75, go_sem, hc2, hz, hz3, hc]) rfl (wideP_ok hs ?_ (by repeat (first | (with_reducible exact Below.refl _ _) | (with_reducible refine bl_alloc ?_ _) | (with_reducible refine Below.drew ?_) | (with_reducible refine below_drewN' ?_ _) | (with_reducible refine bl_trans ?_ hb) | (with_reducible refine bl_trans ?_ hb2) | ((with_reducible refine bl_set ?_ ?_ _); (rotate_left; (dsimp only; omega))))))
    exact wide_ok hs hm.out (other_ok HM.out hv.out.2)
  · go_wp2_with fail
    refine (subLimbs_c x y z u a b c d HX.out HA.out _).mono ?_
    rintro e w2 ⟨t0, t1, t2, t3, co, ht, hv2, rfl, hb2⟩
    obtain ⟨hc2, hf2⟩ := bcell hb2
    have hz2 : w1.heap.size < w2.heap.size := by have := hb2.size; simp at this; omega
    have hz5 : w.heap.size < w2.heap.size := by omega
    have hz6 : w.heap.size + 1 < w2.heap.size := by omega
    have hz3 : w.heap.size + 1 + 1 < w1.heap.size + 1 := by omega
    have hz7 : w.heap.size + 1 < w1.heap.size + 1 := by omega
    have hz8 : w.heap.size < w1.heap.size + 1 := by omega
    have hz9 : w.heap.size + 1 + 1 < w2.heap.size := by omega
    go_wp2_with fail
    refine (signed_c n t0 t1 t2 t3 ht _).mono ?_
    rintro e w3 ⟨m', hm, rfl, hb3⟩
    obtain ⟨hc3, hf3⟩ := bcell hb3
    have hy1 : w.heap.size + 1 + 1 < w2.heap.size + 1 := by omega
    have hy2 : ¬ (w.heap.size + 1 + 1 = w2.heap.size) := by omega
    have hy3 : ¬ (w.heap.size + 1 + 1 = w1.heap.size) := by omega
    have hy4 : w.heap.size + 1 + 1 < w3.heap.size := by have := hb3.size; simp at this; omega
    go_wp2
    refine bodyPost_ret (v := .tuple #[(.agg #[.bool m', .int .u64 t0, .int .u64 t1, .int .u64 t2, .int .u64 t3]), .int .i64 0]) (by simp [results, Try.results75, go_sem, hc3, hc2, hc, hz, hz3, hz9, hy1]) rfl (wideP_ok ht ?_ (by repeat (first | (with_reducible exact Below.refl _ _) | (with_reducible refine bl_alloc ?_ _) | (with_reducible refine Below.drew ?_) | (with_reducible refine below_drewN' ?_ _) | (with_reducible refine bl_trans ?_ hb) | (with_reducible refine bl_trans ?_ hb2) | (with_reducible refine bl_trans ?_ hb3) | ((with_reducible refine bl_set ?_ ?_ _); (rotate_left; (dsimp only; omega))))))
    exact wide_ok ht hm.out (other_no HM.out (v4_bounds hs) (v4_bounds ht) (v4_bounds HA.out) (v4_bounds HX.out) hv.out.2 hv2.out.1 hv2.out.2)

theorem addTwo_c (m n : Bool) (a b c d x y z u : Int) (hA : In4 a b c d) (hX : In4 x y z u) (w : World) :
    Calls Try.prog 75 #[(.agg #[.bool m, .int .u64 a, .int .u64 b, .int .u64 c, .int .u64 d]), (.agg #[.bool n, .int .u64 x, .int .u64 y, .int .u64 z, .int .u64 u])] w (WideP (WV m a b c d + WV n x y z u) w) := by
  by_cases h : m = n
  · subst h; exact addTwo_same m a b c d x y z u hA hX w
  · exact addTwo_other m n (by cases m <;> cases n <;> simp_all) a b c d x y z u hA hX w
end Go.Proofs.Ytkidphekfnmhhaa
