/-
  Contracts of the program's Cmp: cmp.Compare of int and uint64, cmpLimbs, Cmp.
-/
import Derived.Test.YtojfggnimmaemaaRefNum
import Derived.Test.YtojfggnimmaemaaEnv
namespace Go.Proofs.Ytojfggnimmaemaa
open Go.RowKit

set_option maxHeartbeats 1000000 in
set_option maxRecDepth 100000 in
theorem nan_i (x : Int) (w : World) : Calls Try.prog 105 #[.int .i64 x] w fun e w' => e = .returned (.bool false) ∧ Below w.heap.size w w' := by
  go_enter Try.func105, Try.ntmps105
  go_wp2
  go_ret
  exact ⟨by simp, by repeat (first | (with_reducible exact Below.refl _ _) | (with_reducible refine bl_alloc ?_ _) | (with_reducible refine Below.drew ?_) | (with_reducible refine below_drewN' ?_ _) | ((with_reducible refine bl_set ?_ ?_ _); (rotate_left; (dsimp only; omega))))⟩
set_option maxHeartbeats 1000000 in
set_option maxRecDepth 100000 in
theorem nan_u (x : Int) (w : World) : Calls Try.prog 113 #[.int .u64 x] w fun e w' => e = .returned (.bool false) ∧ Below w.heap.size w w' := by
  go_enter Try.func113, Try.ntmps113
  go_wp2
  go_ret
  exact ⟨by simp, by repeat (first | (with_reducible exact Below.refl _ _) | (with_reducible refine bl_alloc ?_ _) | (with_reducible refine Below.drew ?_) | (with_reducible refine below_drewN' ?_ _) | ((with_reducible refine bl_set ?_ ?_ _); (rotate_left; (dsimp only; omega))))⟩

theorem sgZ_lt {z : Int} (h : z < 0) : sgZ z = -1 := by unfold sgZ; rw [if_pos h]
theorem sgZ_eq {z : Int} (h : z = 0) : sgZ z = 0 := by unfold sgZ; rw [if_neg (by omega), if_pos h]
theorem sgZ_gt {z : Int} (h : 0 < z) : sgZ z = 1 := by unfold sgZ; rw [if_neg (by omega), if_neg (by omega)]

set_option maxHeartbeats 1000000 in
set_option maxRecDepth 100000 in
theorem compare_i (x y : Int) (w : World) : Calls Try.prog 90 #[.int .i64 x, .int .i64 y] w (IntP (sgZ (x - y)) w) := by
  have hsel : (decide (x < y) = true ∧ sgZ (x - y) = -1) ∨ (decide (x < y) = false ∧ decide (y < x) = true ∧ sgZ (x - y) = 1) ∨ (decide (x < y) = false ∧ decide (y < x) = false ∧ sgZ (x - y) = 0) := by
    rcases Int.lt_trichotomy x y with h | h | h
    · exact .inl ⟨by simp; omega, sgZ_lt (by omega)⟩
    · exact .inr (.inr ⟨by simp; omega, by simp; omega, sgZ_eq (by omega)⟩)
    · exact .inr (.inl ⟨by simp; omega, by simp; omega, sgZ_gt (by omega)⟩)
  rcases hsel with ⟨h1, e⟩ | ⟨h1, h2, e⟩ | ⟨h1, h2, e⟩
  all_goals
    rw [e]
    go_enter Try.func90, Try.ntmps90
    go_wp2_with (first
      | (go_at_call 105; (with_reducible refine (nan_i x _).mono ?_); rintro e w1 ⟨rfl, hb1⟩)
      | (go_at_call 105; (with_reducible refine (nan_i y _).mono ?_); rintro e w2 ⟨rfl, hb2⟩)
      | go_in)
    go_ret
    exact ⟨rfl, bl_trans hb1 hb2⟩
set_option maxHeartbeats 1000000 in
set_option maxRecDepth 100000 in
theorem compare_u (x y : Int) (w : World) : Calls Try.prog 106 #[.int .u64 x, .int .u64 y] w (IntP (sgZ (x - y)) w) := by
  have hsel : (decide (x < y) = true ∧ sgZ (x - y) = -1) ∨ (decide (x < y) = false ∧ decide (y < x) = true ∧ sgZ (x - y) = 1) ∨ (decide (x < y) = false ∧ decide (y < x) = false ∧ sgZ (x - y) = 0) := by
    rcases Int.lt_trichotomy x y with h | h | h
    · exact .inl ⟨by simp; omega, sgZ_lt (by omega)⟩
    · exact .inr (.inr ⟨by simp; omega, by simp; omega, sgZ_eq (by omega)⟩)
    · exact .inr (.inl ⟨by simp; omega, by simp; omega, sgZ_gt (by omega)⟩)
  rcases hsel with ⟨h1, e⟩ | ⟨h1, h2, e⟩ | ⟨h1, h2, e⟩
  all_goals
    rw [e]
    go_enter Try.func106, Try.ntmps106
    go_wp2_with (first
      | (go_at_call 113; (with_reducible refine (nan_u x _).mono ?_); rintro e w1 ⟨rfl, hb1⟩)
      | (go_at_call 113; (with_reducible refine (nan_u y _).mono ?_); rintro e w2 ⟨rfl, hb2⟩)
      | go_in)
    go_ret
    exact ⟨rfl, bl_trans hb1 hb2⟩

/-- of two rows of limbs the highest one that is not the same tells -/
theorem v4_cmp {a b c d x y z u : Int} (hA : In4 a b c d) (hX : In4 x y z u) (k : Nat) (hk : k < 4) (hne : lim a b c d k ≠ lim x y z u k) (he : ∀ j, k < j → j < 4 → lim a b c d j = lim x y z u j) : sgZ (V4 a b c d - V4 x y z u) = sgZ (lim a b c d k - lim x y z u k) := by
  unfold In4 In1 at hA hX
  have : k = 0 ∨ k = 1 ∨ k = 2 ∨ k = 3 := by omega
  have e1 := he 1
  have e2 := he 2
  have e3 := he 3
  have main : (lim a b c d k < lim x y z u k → V4 a b c d < V4 x y z u) ∧ (lim x y z u k < lim a b c d k → V4 x y z u < V4 a b c d) := by
    unfold V4
    rcases this with rfl | rfl | rfl | rfl <;> simp [lim] at * <;> omega
  rcases Int.lt_trichotomy (lim a b c d k) (lim x y z u k) with h | h | h
  · rw [sgZ_lt (by have := main.1 h; omega), sgZ_lt (by omega)]
  · exact absurd h hne
  · rw [sgZ_gt (by have := main.2 h; omega), sgZ_gt (by omega)]

set_option maxHeartbeats 1000000 in
set_option maxRecDepth 100000 in
theorem cmpLimbs_c (a b c d x y z u : Int) (hA : In4 a b c d) (hX : In4 x y z u) (w : World) :
    Calls Try.prog 91 #[(.agg #[.int .u64 a, .int .u64 b, .int .u64 c, .int .u64 d]), (.agg #[.int .u64 x, .int .u64 y, .int .u64 z, .int .u64 u])] w (IntP (sgZ (V4 a b c d - V4 x y z u)) w) := by
  by_cases hall : a = x ∧ b = y ∧ c = z ∧ d = u
  · have he : ∀ w : World, (Op.equalIn 10000 71 (.agg #[.int .u64 a, .int .u64 b, .int .u64 c, .int .u64 d]) (.agg #[.int .u64 x, .int .u64 y, .int .u64 z, .int .u64 u])).run Try.prog w = .ok true w := fun w => by rw [eqL, decide_eq_true hall]
    have e0 : sgZ (V4 a b c d - V4 x y z u) = 0 := by
      obtain ⟨rfl, rfl, rfl, rfl⟩ := hall
      exact sgZ_eq (by omega)
    rw [e0]
    clear hall
    go_enter Try.func91, Try.ntmps91
    go_wp2
    go_ret
    exact ⟨rfl, by repeat (first | (with_reducible exact Below.refl _ _) | (with_reducible refine bl_alloc ?_ _) | (with_reducible refine Below.drew ?_) | (with_reducible refine below_drewN' ?_ _) | ((with_reducible refine bl_set ?_ ?_ _); (rotate_left; (dsimp only; omega))))⟩
  · have he : ∀ w : World, (Op.equalIn 10000 71 (.agg #[.int .u64 a, .int .u64 b, .int .u64 c, .int .u64 d]) (.agg #[.int .u64 x, .int .u64 y, .int .u64 z, .int .u64 u])).run Try.prog w = .ok false w := fun w => by rw [eqL, decide_eq_false hall]
    have HS : Hid (∀ k, k < 4 → lim a b c d k ≠ lim x y z u k → (∀ j, k < j → j < 4 → lim a b c d j = lim x y z u j) → sgZ (V4 a b c d - V4 x y z u) = sgZ (lim a b c d k - lim x y z u k)) := fun k hk h1 h2 => v4_cmp hA hX k hk h1 h2
    have HN : Hid (∃ k, k < 4 ∧ lim a b c d k ≠ lim x y z u k) := by
      apply Classical.byContradiction
      intro hno
      have key : ∀ k, k < 4 → lim a b c d k = lim x y z u k := fun k hk => Classical.byContradiction fun h => hno ⟨k, hk, h⟩
      exact hall ⟨key 0 (by omega), key 1 (by omega), key 2 (by omega), key 3 (by omega)⟩
    clear hall hA hX
    go_enter Try.func91, Try.ntmps91
    go_wp2
    refine wp_abs (fun W => W.heap.size = w.heap.size + 2 ∧ Below w.heap.size w W ∧ (∀ n, n < 4 → W.cell? ⟨w.heap.size, n, none⟩ = some (.int .u64 (lim a b c d n))) ∧ (∀ n, n < 4 → W.cell? ⟨w.heap.size + 1, n, none⟩ = some (.int .u64 (lim x y z u n)))) ?_ ?_
    · refine ⟨by simp, by repeat (first | (with_reducible exact Below.refl _ _) | (with_reducible refine bl_alloc ?_ _) | (with_reducible refine Below.drew ?_) | (with_reducible refine below_drewN' ?_ _) | ((with_reducible refine bl_set ?_ ?_ _); (rotate_left; (dsimp only; omega)))), ?_, ?_⟩
      all_goals
        intro n hn
        have : n = 0 ∨ n = 1 ∨ n = 2 ∨ n = 3 := by omega
        rcases this with rfl | rfl | rfl | rfl <;> simp [go_sem, lim]
    rintro W2 ⟨hs, hb2, hL, hM⟩
    have HL := Lib.hid hL
    have HM := Lib.hid hM
    clear hL hM
    go_loopw [5] (fun iv W => ∃ i : Nat, iv = .int .i64 i ∧ i < 4 ∧ Hid (∀ j, i < j → j < 4 → lim a b c d j = lim x y z u j) ∧ Below W2.heap.size W2 W) (fun iv _ => (intOf iv).toNat)
    case atStart => exact ⟨3, rfl, by omega, fun j h1 h2 => absurd h2 (by omega), Below.refl _ _⟩
    case round =>
      obtain ⟨i, rfl, hi4, hE, hb⟩ := hrel
      have c1 : wr.cell? ⟨w.heap.size, i, none⟩ = some (.int .u64 (lim a b c d i)) := (hb.cell (by dsimp only; omega)).trans (HL.out i hi4)
      have c2 : wr.cell? ⟨w.heap.size + 1, i, none⟩ = some (.int .u64 (lim x y z u i)) := (hb.cell (by dsimp only; omega)).trans (HM.out i hi4)
      have HB := Lib.hid hb
      have hsz := hb.size
      clear hb
      by_cases hx : lim a b c d i = lim x y z u i
      · obtain ⟨r, rfl⟩ : ∃ r, i = r + 1 := by
          refine ⟨i - 1, ?_⟩
          rcases Nat.eq_zero_or_pos i with h | h
          · subst h
            obtain ⟨k, hk, hne⟩ := HN.out
            rcases Nat.eq_zero_or_pos k with h | h
            · subst h; exact absurd hx hne
            · exact absurd (hE.out k h hk) hne
          · omega
        obtain ⟨p, hp⟩ : ∃ p, p = lim a b c d (r + 1) := ⟨_, rfl⟩
        rw [← hx, ← hp] at c2
        rw [← hp] at c1
        have HX := Lib.hid hx
        clear hx hp
        go_wp2
        go_region_with (fail)
        all_goals
          go_wp2
          go_roundw
          case rel =>
            refine ⟨r, by first | rfl | (congr 1; omega), by omega, ?_, by first | exact HB.out.drew | exact HB.out⟩
            intro j h1 h2
            rcases Nat.eq_or_lt_of_le h1 with h | h
            · subst h; exact HX.out
            · exact hE.out j h h2
          case measure => simp [intOf] <;> omega
      · have hS := HS.out i hi4 hx hE.out
        obtain ⟨p, hp⟩ : ∃ p, p = lim a b c d i := ⟨_, rfl⟩
        obtain ⟨q, hq⟩ : ∃ q, q = lim x y z u i := ⟨_, rfl⟩
        rw [← hp] at c1 hx
        rw [← hq] at c2 hx
        rw [← hp, ← hq] at hS
        have hx1 : (p == q) = false := by simp; exact hx
        have HSS := Lib.hid hS
        clear hS hp hq
        go_wp2
        go_region_with (fail)
        all_goals go_wp2_with fail
        all_goals
          go_region_with (first
            | (go_at_call 106; (with_reducible refine (compare_u p q _).mono ?_); rintro e w1 ⟨rfl, hb1⟩))
        all_goals
          go_wp2
          refine bodyPost_ret (v := .int .i64 (sgZ (p - q))) (by simp [results, Try.results91, go_sem]) rfl ⟨by rw [HSS.out], ?_⟩
          exact bl_trans hb2 (bl_trans HB.out (bl_trans (by first | exact (Below.refl _ _).drew.drew | exact (Below.refl _ _).drew | exact Below.refl _ _) hb1))

end Go.Proofs.Ytojfggnimmaemaa

/-
  Contract of the program's Cmp.
-/
namespace Go.Proofs.Ytojfggnimmaemaa
open Go.RowKit

theorem sgZ_vals (z : Int) : sgZ z = -1 ∨ sgZ z = 0 ∨ sgZ z = 1 := by
  rcases Int.lt_trichotomy z 0 with h | h | h
  · exact .inl (sgZ_lt h)
  · exact .inr (.inl (sgZ_eq h))
  · exact .inr (.inr (sgZ_gt h))
theorem sgn_sgZ (m : Bool) (a b c d : Int) (hA : In4 a b c d) : sgn m (V4 a b c d) = sgZ (WV m a b c d) := by
  have := v4_bounds hA
  by_cases h : V4 a b c d = 0
  · rw [sgZ_eq (wv_zero.2 h), sgn, if_pos h]
  · cases m
    · rw [sgZ_gt (by simp [WV]; omega), sgn, if_neg h]; rfl
    · rw [sgZ_lt (by simp [WV]; omega), sgn, if_neg h]; rfl

theorem cmp_diff (A B : Int) (h : sgZ A ≠ sgZ B) : sgZ (A - B) = sgZ (sgZ A - sgZ B) := by
  rcases Int.lt_trichotomy A 0 with h1 | h1 | h1 <;> rcases Int.lt_trichotomy B 0 with h2 | h2 | h2
  all_goals first
    | rw [sgZ_lt h1] at h ⊢ | rw [sgZ_eq h1] at h ⊢ | rw [sgZ_gt h1] at h ⊢
  all_goals first
    | rw [sgZ_lt h2] at h ⊢ | rw [sgZ_eq h2] at h ⊢ | rw [sgZ_gt h2] at h ⊢
  all_goals first
    | (exact absurd rfl h)
    | (rw [sgZ_lt (show A - B < 0 by omega)]; rfl)
    | (rw [sgZ_gt (show 0 < A - B by omega)]; rfl)
theorem cmp_same {m n : Bool} {a b c d x y z u : Int} (hA : In4 a b c d) (hX : In4 x y z u) (h : sgZ (WV m a b c d) = sgZ (WV n x y z u)) : sgZ (WV m a b c d - WV n x y z u) = sgZ (WV m a b c d) * sgZ (V4 a b c d - V4 x y z u) := by
  have b1 := v4_bounds hA
  have b2 := v4_bounds hX
  by_cases h1 : V4 a b c d = 0
  · have h2 : V4 x y z u = 0 := by
      rw [sgZ_eq (wv_zero.2 h1)] at h
      apply Classical.byContradiction
      intro h3
      rcases Int.lt_trichotomy (WV n x y z u) 0 with h4 | h4 | h4
      · rw [sgZ_lt h4] at h; omega
      · exact h3 (wv_zero.1 h4)
      · rw [sgZ_gt h4] at h; omega
    rw [wv_zero.2 h1, wv_zero.2 h2, h1, h2]; rfl
  · by_cases h2 : V4 x y z u = 0
    · exfalso
      rw [sgZ_eq (wv_zero.2 h2)] at h
      rcases Int.lt_trichotomy (WV m a b c d) 0 with h4 | h4 | h4
      · rw [sgZ_lt h4] at h; omega
      · exact h1 (wv_zero.1 h4)
      · rw [sgZ_gt h4] at h; omega
    · cases m <;> cases n
      · simp only [WV, Bool.false_eq_true, if_false]
        rw [sgZ_gt (show 0 < V4 a b c d by omega), Int.one_mul]
      · exfalso
        rw [sgZ_gt (by simp [WV]; omega), sgZ_lt (by simp [WV]; omega)] at h; omega
      · exfalso
        rw [sgZ_lt (by simp [WV]; omega), sgZ_gt (by simp [WV]; omega)] at h; omega
      · simp only [WV, if_true]
        rw [sgZ_lt (show -V4 a b c d < 0 by omega)]
        rcases Int.lt_trichotomy (V4 a b c d) (V4 x y z u) with h4 | h4 | h4
        · rw [sgZ_gt (by omega), sgZ_lt (by omega)]; rfl
        · rw [sgZ_eq (by omega), sgZ_eq (by omega)]; rfl
        · rw [sgZ_lt (by omega), sgZ_gt (by omega)]; rfl

set_option maxHeartbeats 1000000 in
set_option maxRecDepth 100000 in
theorem wcmp_c (m n : Bool) (a b c d x y z u : Int) (hA : In4 a b c d) (hX : In4 x y z u) (w : World) :
    Calls Try.prog 69 #[(.agg #[.bool m, .int .u64 a, .int .u64 b, .int .u64 c, .int .u64 d]), (.agg #[.bool n, .int .u64 x, .int .u64 y, .int .u64 z, .int .u64 u])] w (IntP (sgZ (WV m a b c d - WV n x y z u)) w) := by
  have S1 := sgn_sgZ m a b c d hA
  have S2 := sgn_sgZ n x y z u hX
  have HA := Lib.hid hA
  have HX := Lib.hid hX
  have HK := Lib.hid (cmp_same hA hX (m := m) (n := n))
  have HD := Lib.hid (cmp_diff (WV m a b c d) (WV n x y z u))
  obtain ⟨sa, hsa⟩ : ∃ sa, sa = sgZ (WV m a b c d) := ⟨_, rfl⟩
  obtain ⟨sb, hsb⟩ : ∃ sb, sb = sgZ (WV n x y z u) := ⟨_, rfl⟩
  rw [← hsa, ← hsb] at HK HD
  have ba : sa = -1 ∨ sa = 0 ∨ sa = 1 := by rw [hsa]; exact sgZ_vals _
  rw [← hsa] at S1
  rw [← hsb] at S2
  clear hA hX hsa hsb
  go_enter Try.func69, Try.ntmps69
  go_upto_region 1 with (fail)
  refine wp_abs (fun W => w.heap.size + 2 ≤ W.heap.size ∧ Env w [(w.heap.size, (⟨m, a, b, c, d⟩ : Wd)), (w.heap.size + 1, (⟨n, x, y, z, u⟩ : Wd))] W) ?_ ?_
  · refine ⟨by simp, Env.push (Env.push ⟨fun p hp => by simp at hp, by repeat (first | (with_reducible exact Below.refl _ _) | (with_reducible refine bl_alloc ?_ _) | (with_reducible refine Below.drew ?_) | (with_reducible refine below_drewN' ?_ _) | ((with_reducible refine bl_set ?_ ?_ _); (rotate_left; (dsimp only; omega))))⟩ ?_) ?_⟩ <;> (constructor <;> simp [go_sem])
  rintro W0 ⟨hs0, hE⟩
  have HE := Lib.hid hE
  clear hE
  obtain ⟨c0, c1, c2, c3, c4⟩ := HE.out.cells (g := w.heap.size) (m := m) (a := a) (b := b) (c := c) (d := d) List.mem_cons_self
  obtain ⟨d0, d1, d2, d3, d4⟩ := HE.out.cells (g := w.heap.size + 1) (m := n) (a := x) (b := y) (c := z) (d := u) (List.mem_cons_of_mem _ List.mem_cons_self)
  go_cut [5, 6] (fun sv tv W => sv = .int .i64 sa ∧ tv = .int .i64 sb ∧ Below W0.heap.size W0 W)
  case first =>
    go_region_with (first
      | (go_at_call 59; (with_reducible refine (sign_c m a b c d HA.out _).mono ?_); rintro e w1 ⟨rfl, hb1⟩
         have HE1 := Lib.hid (HE.out.below (bl_trans (bl_drew1 _) hb1))
         obtain ⟨e0, e1, e2, e3, e4⟩ := HE1.out.cells (g := w.heap.size + 1) (m := n) (a := x) (b := y) (c := z) (d := u) (List.mem_cons_of_mem _ List.mem_cons_self))
      | (go_at_call 59; (with_reducible refine (sign_c n x y z u HX.out _).mono ?_); rintro e w2 ⟨rfl, hb2⟩))
    all_goals
      go_wp2_with fail
      go_meet
      case rel => exact ⟨by first | rfl | rw [S1], by first | rfl | rw [S2], bl_trans (bl_trans (bl_drew1 _) hb1) hb2⟩
  case rest =>
    obtain ⟨rfl, rfl, hb⟩ := hcut
    have HF := Lib.hid (HE.out.below hb)
    have hs1 := hb.size
    clear HE c0 c1 c2 c3 c4 d0 d1 d2 d3 d4 hb S1 S2
    by_cases hne : sa = sb
    · subst hne
      obtain ⟨c0, c1, c2, c3, c4⟩ := HF.out.cells (g := w.heap.size) (m := m) (a := a) (b := b) (c := c) (d := d) List.mem_cons_self
      obtain ⟨d0, d1, d2, d3, d4⟩ := HF.out.cells (g := w.heap.size + 1) (m := n) (a := x) (b := y) (c := z) (d := u) (List.mem_cons_of_mem _ List.mem_cons_self)
      have ht := sgZ_vals (V4 a b c d - V4 x y z u)
      have hk := HK.out rfl
      obtain ⟨t, et⟩ : ∃ t, t = sgZ (V4 a b c d - V4 x y z u) := ⟨_, rfl⟩
      have HC := Lib.hid (cmpLimbs_c a b c d x y z u HA.out HX.out)
      rw [← et] at ht hk HC
      clear et
      have hw : IntKind.i64.wrap (sa * t) = sa * t := IntWalk.i64_in _ (by rcases ba with rfl | rfl | rfl <;> omega)
      have hw' : wrap64 (sa * t) = sa * t := by unfold wrap64; rcases ba with rfl | rfl | rfl <;> omega
      go_wp2_with (first
        | (go_at_call 91; (with_reducible refine (HC.out _).mono ?_); rintro e w1 ⟨rfl, hb1⟩)
        | go_in)
      go_ret
      exact ⟨by rw [hk]; first | rfl | (rw [← hw']; rfl) | (simp [hw']; done), bl_trans HF.out.hb hb1⟩
    · have q1 : (sa == sb) = false := by simp; exact hne
      go_wp2_with (first
        | (go_at_call 90; (with_reducible refine (compare_i sa sb _).mono ?_); rintro e w1 ⟨rfl, hb1⟩)
        | go_in)
      go_ret
      exact ⟨by rw [HD.out hne]; rfl, bl_trans HF.out.hb hb1⟩
end Go.Proofs.Ytojfggnimmaemaa
