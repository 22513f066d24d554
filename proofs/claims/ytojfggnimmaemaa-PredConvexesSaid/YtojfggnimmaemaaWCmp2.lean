/-
  Contract of the program's Cmp.
-/
import Derived.Test.YtojfggnimmaemaaWCmp
import Derived.Test.YtojfggnimmaemaaEnv
namespace Go.Proofs.Ytojfggnimmaemaa
open Go.RowKit

theorem sgZ_vals (z : Int) : sgZ z = -1 ∨ sgZ z = 0 ∨ sgZ z = 1 := by
  rcases Int.lt_trichotomy z 0 with h | h | h
  · exact .inl (sgZ_lt h)
  · exact .inr (.inl (sgZ_eq h))
  · exact .inr (.inr (sgZ_gt h))
theorem sgn_sgZ (m : Bool) (a b c d : Int) (hA : In4 a b c d) : sgn m (V4 a b c d) = sgZ (WV m a b c d) := by
  have := v4_bounds hA
  by_cases h : V4 a b c d = 0
  · rw [sgZ_eq (wv_zero.2 h), sgn, if_pos h]
  · cases m
    · rw [sgZ_gt (by simp [WV]; omega), sgn, if_neg h]; rfl
    · rw [sgZ_lt (by simp [WV]; omega), sgn, if_neg h]; rfl

theorem cmp_diff (A B : Int) (h : sgZ A ≠ sgZ B) : sgZ (A - B) = sgZ (sgZ A - sgZ B) := by
  rcases Int.lt_trichotomy A 0 with h1 | h1 | h1 <;> rcases Int.lt_trichotomy B 0 with h2 | h2 | h2
  all_goals first
    | rw [sgZ_lt h1] at h ⊢ | rw [sgZ_eq h1] at h ⊢ | rw [sgZ_gt h1] at h ⊢
  all_goals first
    | rw [sgZ_lt h2] at h ⊢ | rw [sgZ_eq h2] at h ⊢ | rw [sgZ_gt h2] at h ⊢
  all_goals first
    | (exact absurd rfl h)
    | (rw [sgZ_lt (show A - B < 0 by omega)]; rfl)
    | (rw [sgZ_gt (show 0 < A - B by omega)]; rfl)
theorem cmp_same {m n : Bool} {a b c d x y z u : Int} (hA : In4 a b c d) (hX : In4 x y z u) (h : sgZ (WV m a b c d) = sgZ (WV n x y z u)) : sgZ (WV m a b c d - WV n x y z u) = sgZ (WV m a b c d) * sgZ (V4 a b c d - V4 x y z u) := by
  have b1 := v4_bounds hA
  have b2 := v4_bounds hX
  by_cases h1 : V4 a b c d = 0
  · have h2 : V4 x y z u = 0 := by
      rw [sgZ_eq (wv_zero.2 h1)] at h
      apply Classical.byContradiction
      intro h3
      rcases Int.lt_trichotomy (WV n x y z u) 0 with h4 | h4 | h4
      · rw [sgZ_lt h4] at h; omega
      · exact h3 (wv_zero.1 h4)
      · rw [sgZ_gt h4] at h; omega
    rw [wv_zero.2 h1, wv_zero.2 h2, h1, h2]; rfl
  · by_cases h2 : V4 x y z u = 0
    · exfalso
      rw [sgZ_eq (wv_zero.2 h2)] at h
      rcases Int.lt_trichotomy (WV m a b c d) 0 with h4 | h4 | h4
      · rw [sgZ_lt h4] at h; omega
      · exact h1 (wv_zero.1 h4)
      · rw [sgZ_gt h4] at h; omega
    · cases m <;> cases n
      · simp only [WV, Bool.false_eq_true, if_false]
        rw [sgZ_gt (show 0 < V4 a b c d by omega), Int.one_mul]
      · exfalso
        rw [sgZ_gt (by simp [WV]; omega), sgZ_lt (by simp [WV]; omega)] at h; omega
      · exfalso
        rw [sgZ_lt (by simp [WV]; omega), sgZ_gt (by simp [WV]; omega)] at h; omega
      · simp only [WV, if_true]
        rw [sgZ_lt (show -V4 a b c d < 0 by omega)]
        rcases Int.lt_trichotomy (V4 a b c d) (V4 x y z u) with h4 | h4 | h4
        · rw [sgZ_gt (by omega), sgZ_lt (by omega)]; rfl
        · rw [sgZ_eq (by omega), sgZ_eq (by omega)]; rfl
        · rw [sgZ_lt (by omega), sgZ_gt (by omega)]; rfl

set_option maxHeartbeats 1000000 in
set_option maxRecDepth 100000 in
theorem wcmp_c (m n : Bool) (a b c d x y z u : Int) (hA : In4 a b c d) (hX : In4 x y z u) (w : World) :
    Calls Try.prog 69 #[(.agg #[.bool m, .int .u64 a, .int .u64 b, .int .u64 c, .int .u64 d]), (.agg #[.bool n, .int .u64 x, .int .u64 y, .int .u64 z, .int .u64 u])] w (IntP (sgZ (WV m a b c d - WV n x y z u)) w) := by
  have S1 := sgn_sgZ m a b c d hA
  have S2 := sgn_sgZ n x y z u hX
  have HA := Lib.hid hA
  have HX := Lib.hid hX
  have HK := Lib.hid (cmp_same hA hX (m := m) (n := n))
  have HD := Lib.hid (cmp_diff (WV m a b c d) (WV n x y z u))
  obtain ⟨sa, hsa⟩ : ∃ sa, sa = sgZ (WV m a b c d) := ⟨_, rfl⟩
  obtain ⟨sb, hsb⟩ : ∃ sb, sb = sgZ (WV n x y z u) := ⟨_, rfl⟩
  rw [← hsa, ← hsb] at HK HD
  have ba : sa = -1 ∨ sa = 0 ∨ sa = 1 := by rw [hsa]; exact sgZ_vals _
  rw [← hsa] at S1
  rw [← hsb] at S2
  clear hA hX hsa hsb
  go_enter Try.func69, Try.ntmps69
  go_upto_region 1 with (fail)
  refine wp_abs (fun W => w.heap.size + 2 ≤ W.heap.size ∧ Env w [(w.heap.size, (⟨m, a, b, c, d⟩ : Wd)), (w.heap.size + 1, (⟨n, x, y, z, u⟩ : Wd))] W) ?_ ?_
  · refine ⟨by simp, Env.push (Env.push ⟨fun p hp => by simp at hp, by repeat (first | (with_reducible exact Below.refl _ _) | (with_reducible refine bl_alloc ?_ _) | (with_reducible refine Below.drew ?_) | (with_reducible refine below_drewN' ?_ _) | ((with_reducible refine bl_set ?_ ?_ _); (rotate_left; (dsimp only; omega))))⟩ ?_) ?_⟩ <;> (constructor <;> simp [go_sem])
  rintro W0 ⟨hs0, hE⟩
  have HE := Lib.hid hE
  clear hE
  obtain ⟨c0, c1, c2, c3, c4⟩ := HE.out.cells (g := w.heap.size) (m := m) (a := a) (b := b) (c := c) (d := d) List.mem_cons_self
  obtain ⟨d0, d1, d2, d3, d4⟩ := HE.out.cells (g := w.heap.size + 1) (m := n) (a := x) (b := y) (c := z) (d := u) (List.mem_cons_of_mem _ List.mem_cons_self)
  go_cut [5, 6] (fun sv tv W => sv = .int .i64 sa ∧ tv = .int .i64 sb ∧ Below W0.heap.size W0 W)
  case first =>
    go_region_with (first
      | (go_at_call 59; (with_reducible refine (sign_c m a b c d HA.out _).mono ?_); rintro e w1 ⟨rfl, hb1⟩
         have HE1 := Lib.hid (HE.out.below (bl_trans (bl_drew1 _) hb1))
         obtain ⟨e0, e1, e2, e3, e4⟩ := HE1.out.cells (g := w.heap.size + 1) (m := n) (a := x) (b := y) (c := z) (d := u) (List.mem_cons_of_mem _ List.mem_cons_self))
      | (go_at_call 59; (with_reducible refine (sign_c n x y z u HX.out _).mono ?_); rintro e w2 ⟨rfl, hb2⟩))
    all_goals
      go_wp2_with fail
      go_meet
      case rel => exact ⟨by first | rfl | rw [S1], by first | rfl | rw [S2], bl_trans (bl_trans (bl_drew1 _) hb1) hb2⟩
  case rest =>
    obtain ⟨rfl, rfl, hb⟩ := hcut
    have HF := Lib.hid (HE.out.below hb)
    have hs1 := hb.size
    clear HE c0 c1 c2 c3 c4 d0 d1 d2 d3 d4 hb S1 S2
    by_cases hne : sa = sb
    · subst hne
      obtain ⟨c0, c1, c2, c3, c4⟩ := HF.out.cells (g := w.heap.size) (m := m) (a := a) (b := b) (c := c) (d := d) List.mem_cons_self
      obtain ⟨d0, d1, d2, d3, d4⟩ := HF.out.cells (g := w.heap.size + 1) (m := n) (a := x) (b := y) (c := z) (d := u) (List.mem_cons_of_mem _ List.mem_cons_self)
      have ht := sgZ_vals (V4 a b c d - V4 x y z u)
      have hk := HK.out rfl
      obtain ⟨t, et⟩ : ∃ t, t = sgZ (V4 a b c d - V4 x y z u) := ⟨_, rfl⟩
      have HC := Lib.hid (cmpLimbs_c a b c d x y z u HA.out HX.out)
      rw [← et] at ht hk HC
      clear et
      have hw : IntKind.i64.wrap (sa * t) = sa * t := IntWalk.i64_in _ (by rcases ba with rfl | rfl | rfl <;> omega)
      have hw' : wrap64 (sa * t) = sa * t := by unfold wrap64; rcases ba with rfl | rfl | rfl <;> omega
      go_wp2_with (first
        | (go_at_call 91; (with_reducible refine (HC.out _).mono ?_); rintro e w1 ⟨rfl, hb1⟩)
        | go_in)
      go_ret
      exact ⟨by rw [hk]; first | rfl | (rw [← hw']; rfl) | (simp [hw']; done), bl_trans HF.out.hb hb1⟩
    · have q1 : (sa == sb) = false := by simp; exact hne
      go_wp2_with (first
        | (go_at_call 90; (with_reducible refine (compare_i sa sb _).mono ?_); rintro e w1 ⟨rfl, hb1⟩)
        | go_in)
      go_ret
      exact ⟨by rw [HD.out hne]; rfl, bl_trans HF.out.hb hb1⟩
end Go.Proofs.Ytojfggnimmaemaa
