/-
  Contracts of pred.greater, pred.Skinny.
-/
import Derived.Test.YtojfggnimmaemaaGeoAll
namespace Go.Proofs.Ytojfggnimmaemaa
open Go.RowKit

set_option maxHeartbeats 1000000 in
set_option maxRecDepth 100000 in
theorem greater_l (x y : Int) (hx : BW x) (hy : BW y) (w : World) : Calls Try.prog 65 #[(.agg #[.bool (QM (x)), .int .u64 (Q0 (x)), .int .u64 (Q1 (x)), .int .u64 (Q2 (x)), .int .u64 (Q3 (x))]), (.agg #[.bool (QM (y)), .int .u64 (Q0 (y)), .int .u64 (Q1 (y)), .int .u64 (Q2 (y)), .int .u64 (Q3 (y))])] w (Gives (.agg #[.bool (QM (maxZ x y)), .int .u64 (Q0 (maxZ x y)), .int .u64 (Q1 (maxZ x y)), .int .u64 (Q2 (maxZ x y)), .int .u64 (Q3 (maxZ x y))]) w) := by
  have C := hi (fun W => cmpQ x y hx hy W)
  have HZ : Hid (maxZ x y = if x < y then y else x) := rfl
  clear hx hy
  go_enter Try.func65, Try.ntmps65
  go_upto_region 1 with (fail)
  refine wp_abs (fun W => Var W w.heap.size [.bool (QM (x)), .int .u64 (Q0 (x)), .int .u64 (Q1 (x)), .int .u64 (Q2 (x)), .int .u64 (Q3 (x))] ∧ Var W (w.heap.size + 1) [.bool (QM (y)), .int .u64 (Q0 (y)), .int .u64 (Q1 (y)), .int .u64 (Q2 (y)), .int .u64 (Q3 (y))] ∧ Slot5 W (w.heap.size + 1 + 1) ∧ Grew w 3 W) ?_ ?_
  · exact ⟨(var5_new _ _ _ _ _ _ _ _ rfl).below (bl_alloc (bl_one _ _) _), (var5_new _ _ _ _ _ _ _ _ (by simp)).below (bl_one _ _), ⟨_, _, _, _, _, var5_new _ _ _ _ _ _ _ _ (by simp)⟩, by repeat (first | (with_reducible exact Below.refl _ _) | (with_reducible refine bl_alloc ?_ _) | (with_reducible refine Below.drew ?_) | (with_reducible refine below_drewN' ?_ _) | ((with_reducible refine bl_set ?_ ?_ _); (rotate_left; (dsimp only; omega)))), by simp⟩
  rintro W0 hS0
  have HS0 := hi hS0
  obtain ⟨c0, c1, c2, c3, c4⟩ := hS0.1.five
  obtain ⟨d0, d1, d2, d3, d4⟩ := hS0.2.1.five
  clear hS0
  go_wp2_with fail
  (with_reducible refine (C.out _).mono ?_); rintro e w1 ⟨rfl, hb1⟩
  obtain ⟨c0, c1, c2, c3, c4⟩ := (HS0.out.1.below hb1).five
  obtain ⟨d0, d1, d2, d3, d4⟩ := (HS0.out.2.1.below hb1).five
  obtain ⟨r0, r1, r2, r3, r4, vr⟩ := HS0.out.2.2.1.below hb1
  obtain ⟨k0, k1, k2, k3, k4⟩ := vr.five
  obtain ⟨f0, f1, f2, f3, f4⟩ := vr.free5
  have HG := hi (HS0.out.2.2.2.below hb1)
  clear vr HS0 hb1
  rcases Int.lt_or_le x y with hlt | hlt
  · have hs := sg3_lt (show x - y < 0 by omega)
    rw [if_pos hlt] at HZ
    have HZ := hi HZ
    rw [hs]
    clear hs hlt
    go_wp2
    refine bodyPost_ret (v := (.agg #[.bool (QM (y)), .int .u64 (Q0 (y)), .int .u64 (Q1 (y)), .int .u64 (Q2 (y)), .int .u64 (Q3 (y))])) (by simp [results, Try.results65, go_sem, k0, k1, k2, k3, k4]; done) rfl ⟨by rw [HZ.out], ?_⟩
    repeat (first | (with_reducible exact Below.refl _ _) | (with_reducible refine bl_alloc ?_ _) | (with_reducible refine Below.drew ?_) | (with_reducible refine below_drewN' ?_ _) | ((with_reducible refine bl_set ?_ ?_ _); (rotate_left; (dsimp only; omega))))
    exact HG.out.hb
  · have hs : sg3 (x - y) = 0 ∨ sg3 (x - y) = 1 := by rcases sg3_vals (x - y) with ⟨h, e⟩ | ⟨h, e⟩ | ⟨h, e⟩ <;> omega
    rw [if_neg (by omega)] at HZ
    have HZ := hi HZ
    generalize sg3 (x - y) = s at *
    clear hlt
    rcases hs with rfl | rfl
    all_goals
      go_wp2
      refine bodyPost_ret (v := (.agg #[.bool (QM (x)), .int .u64 (Q0 (x)), .int .u64 (Q1 (x)), .int .u64 (Q2 (x)), .int .u64 (Q3 (x))])) (by simp [results, Try.results65, go_sem, k0, k1, k2, k3, k4]; done) rfl ⟨by rw [HZ.out], ?_⟩
      repeat (first | (with_reducible exact Below.refl _ _) | (with_reducible refine bl_alloc ?_ _) | (with_reducible refine Below.drew ?_) | (with_reducible refine below_drewN' ?_ _) | ((with_reducible refine bl_set ?_ ?_ _); (rotate_left; (dsimp only; omega))))
      exact HG.out.hb
theorem sqZ_b {a b : Pt} (ha : fitB a = true) (hb : fitB b = true) : Ab (sqZ a b) 147573952589676412928 := by
  have h := dif_ab ha hb
  exact ((h.1.mul h.1).add (h.2.mul h.2)).le (by decide)
theorem maxZ_bw {x y : Int} (hx : BW x) (hy : BW y) : BW (maxZ x y) := by unfold maxZ; split <;> assumption

set_option maxHeartbeats 8000000 in
set_option maxRecDepth 100000 in
theorem skinny_l (a b c : Pt) (w : World) : Calls Try.prog 28 #[.agg #[.int .i64 a.x, .int .i64 a.y], .agg #[.int .i64 b.x, .int .i64 b.y], .agg #[.int .i64 c.x, .int .i64 c.y]] w (Gives (.bool (skinnyB a b c)) w) := by
  obtain ⟨r, hr⟩ : ∃ r, (fitB a && fitB b && fitB c) = r := ⟨_, rfl⟩
  have HR := hi hr
  have HZ : Hid (skinnyB a b c = (r && (decide (crossZ a b c = 0) || decide (8 * (crossZ a b c * crossZ a b c) < maxZ (sqZ a b * sqZ b c) (maxZ (sqZ b c * sqZ c a) (sqZ c a * sqZ a b)))))) := by unfold skinnyB; rw [hr]; exact rfl
  clear hr
  go_enter Try.func28, Try.ntmps28
  go_upto_region 1 with (fail)
  refine wp_abs (fun W => Var W (w.heap.size) [.int .i64 a.x, .int .i64 a.y] ∧ Var W (w.heap.size + 1) [.int .i64 b.x, .int .i64 b.y] ∧ Var W (w.heap.size + 1 + 1) [.int .i64 c.x, .int .i64 c.y] ∧ Grew w 3 W) ?_ ?_
  · exact ⟨(var2_new _ _ _ _ _ rfl).below (bl_alloc (bl_one _ _) _), (var2_new _ _ _ _ _ (by simp)).below (bl_one _ _), var2_new _ _ _ _ _ (by simp), by repeat (first | (with_reducible exact Below.refl _ _) | (with_reducible refine bl_alloc ?_ _) | (with_reducible refine Below.drew ?_) | (with_reducible refine below_drewN' ?_ _) | ((with_reducible refine bl_set ?_ ?_ _); (rotate_left; (dsimp only; omega)))), by simp⟩
  rintro W0 hS0
  have HS0 := hi hS0
  obtain ⟨c0, c1⟩ := hS0.1.two
  obtain ⟨c2, c3⟩ := hS0.2.1.two
  obtain ⟨c4, c5⟩ := hS0.2.2.1.two
  clear hS0
  go_wp2_with fail
  refine (fits3 _ a b c _ r HR.out).mono ?_
  rintro e w1 ⟨rfl, hb1⟩
  replace HS0 : Hid ((fun W => Var W (w.heap.size) [.int .i64 a.x, .int .i64 a.y] ∧ Var W (w.heap.size + 1) [.int .i64 b.x, .int .i64 b.y] ∧ Var W (w.heap.size + 1 + 1) [.int .i64 c.x, .int .i64 c.y] ∧ Grew w 3 W) w1) := ⟨HS0.out.1.below (bl_trans (bl_one _ _) hb1), HS0.out.2.1.below (bl_trans (bl_one _ _) hb1), HS0.out.2.2.1.below (bl_trans (bl_one _ _) hb1), HS0.out.2.2.2.below (bl_trans (bl_one _ _) hb1)⟩
  clear c0 c1 c2 c3 c4 c5 hb1
  cases r
  case false =>
    go_wp2
    go_ret
    exact ⟨by rw [HZ.out]; rfl, HS0.out.2.2.2.hb⟩
  case true =>
  obtain ⟨fa, fb, fc⟩ := and3 HR.out
  have Rab := hi (dif_r fa fb)
  have Rbc := hi (dif_r fb fc)
  have Rca := hi (dif_r fc fa)
  have Rac := hi (dif_r fa fc)
  have hp := sqZ_b fa fb
  have hq := sqZ_b fb fc
  have hrr := sqZ_b fc fa
  have hz := cross_b fa fb fc
  clear fa fb fc
  go_upto_region 3 with (fail)
  go_cut [7, 8, 9] (fun pa pb pc W => ∃ g1 g2 g3 : Nat, pa = .pointer (some ⟨g1, 0, none⟩) ∧ pb = .pointer (some ⟨g2, 0, none⟩) ∧ pc = .pointer (some ⟨g3, 0, none⟩) ∧ (w.heap.size + 3 ≤ g1 ∧ w.heap.size + 3 ≤ g2 ∧ w.heap.size + 3 ≤ g3 ∧ g1 ≠ g2 ∧ g1 ≠ g3 ∧ g2 ≠ g3) ∧ Var W (g1) [.int .u64 (LH (sqZ a b)), .int .u64 (LL (sqZ a b))] ∧ Var W (g2) [.int .u64 (LH (sqZ b c)), .int .u64 (LL (sqZ b c))] ∧ Var W (g3) [.int .u64 (LH (sqZ c a)), .int .u64 (LL (sqZ c a))] ∧ (fun W => Var W (w.heap.size) [.int .i64 a.x, .int .i64 a.y] ∧ Var W (w.heap.size + 1) [.int .i64 b.x, .int .i64 b.y] ∧ Var W (w.heap.size + 1 + 1) [.int .i64 c.x, .int .i64 c.y] ∧ Grew w 3 W) W)
  case first =>
    clear HZ HR hp hq hrr hz
    refine wp_region_held_drew (S := fun W => Var W (w.heap.size) [.int .i64 a.x, .int .i64 a.y] ∧ Var W (w.heap.size + 1) [.int .i64 b.x, .int .i64 b.y] ∧ Var W (w.heap.size + 1 + 1) [.int .i64 c.x, .int .i64 c.y] ∧ Grew w 3 W) (by kernel_rfl) ?_ (fun q1 => ?_)
    · exact ⟨HS0.out.1.below (bel_drew _), HS0.out.2.1.below (bel_drew _), HS0.out.2.2.1.below (bel_drew _), HS0.out.2.2.2.below (bel_drew _)⟩
    revert q1
    generalize World.drew _ = W1
    intro q1
    refine tk (i := 0) (v := ?_) rfl (Or.inl ⟨by rfl, ?_⟩) ?_
    rotate_left
    · intro Wq hSw
      obtain ⟨k0, k1⟩ := (id hSw).1.two
      clear hSw
      go_simp
      all_goals (with_reducible rfl)
    try simp only [Act.put, x2, x4, x5, x6, x7]
    refine tk (i := 1) (v := ?_) rfl (Or.inl ⟨by rfl, ?_⟩) ?_
    rotate_left
    · intro Wq hSw
      obtain ⟨k0, k1⟩ := (id hSw).2.1.two
      clear hSw
      go_simp
      all_goals (with_reducible rfl)
    try simp only [Act.put, x2, x3, x4, x5, x6, x7]
    refine tk (i := 4) (v := ?_) rfl (Or.inl ⟨by rfl, ?_⟩) ?_
    rotate_left
    · intro Wq hSw
      obtain ⟨k0, k1⟩ := (id hSw).2.1.two
      clear hSw
      go_simp
      all_goals (with_reducible rfl)
    try simp only [Act.put, x2, x3, x4, x5, x6, x7]
    refine tk (i := 5) (v := ?_) rfl (Or.inl ⟨by rfl, ?_⟩) ?_
    rotate_left
    · intro Wq hSw
      obtain ⟨k0, k1⟩ := (id hSw).2.2.1.two
      clear hSw
      go_simp
      all_goals (with_reducible rfl)
    try simp only [Act.put, x2, x3, x4, x5, x6, x7]
    refine tk (i := 8) (v := ?_) rfl (Or.inl ⟨by rfl, ?_⟩) ?_
    rotate_left
    · intro Wq hSw
      obtain ⟨k0, k1⟩ := (id hSw).2.2.1.two
      clear hSw
      go_simp
      all_goals (with_reducible rfl)
    try simp only [Act.put, x2, x3, x4, x5, x6, x7]
    refine tk (i := 9) (v := ?_) rfl (Or.inl ⟨by rfl, ?_⟩) ?_
    rotate_left
    · intro Wq hSw
      obtain ⟨k0, k1⟩ := (id hSw).1.two
      clear hSw
      go_simp
      all_goals (with_reducible rfl)
    try simp only [Act.put, x2, x3, x4, x5, x6, x7]
    refine wpAnyH_named (fun ops0 Qx a0 S0 e1 e2 e3 e4 => ?_)
    obtain ⟨v22_, f22_⟩ : ∃ v : Value, .agg #[.int .i64 (b.x - a.x), .int .i64 (b.y - a.y)] = v := ⟨_, rfl⟩
    obtain ⟨v23_, f23_⟩ : ∃ v : Value, .agg #[.int .u64 (LH ((b.x - a.x) * (b.x - a.x) + (b.y - a.y) * (b.y - a.y))), .int .u64 (LL ((b.x - a.x) * (b.x - a.x) + (b.y - a.y) * (b.y - a.y)))] = v := ⟨_, rfl⟩
    obtain ⟨v26_, f26_⟩ : ∃ v : Value, .agg #[.int .i64 (c.x - b.x), .int .i64 (c.y - b.y)] = v := ⟨_, rfl⟩
    obtain ⟨v27_, f27_⟩ : ∃ v : Value, .agg #[.int .u64 (LH ((c.x - b.x) * (c.x - b.x) + (c.y - b.y) * (c.y - b.y))), .int .u64 (LL ((c.x - b.x) * (c.x - b.x) + (c.y - b.y) * (c.y - b.y)))] = v := ⟨_, rfl⟩
    obtain ⟨v30_, f30_⟩ : ∃ v : Value, .agg #[.int .i64 (a.x - c.x), .int .i64 (a.y - c.y)] = v := ⟨_, rfl⟩
    obtain ⟨v31_, f31_⟩ : ∃ v : Value, .agg #[.int .u64 (LH ((a.x - c.x) * (a.x - c.x) + (a.y - c.y) * (a.y - c.y))), .int .u64 (LL ((a.x - c.x) * (a.x - c.x) + (a.y - c.y) * (a.y - c.y)))] = v := ⟨_, rfl⟩
    have s0_ : Hid (∀ (W : World) (gHA : Nat) (gHB : Nat) (gHC : Nat), S0 W → Hid (Var W gHA [.int .u64 0, .int .u64 0]) → w.heap.size + 3 ≤ gHA → Hid (Var W gHB [.int .u64 0, .int .u64 0]) → w.heap.size + 3 ≤ gHB → Hid (Var W gHC [.int .u64 0, .int .u64 0]) → w.heap.size + 3 ≤ gHC → gHA ≠ gHB → gHA ≠ gHC → gHB ≠ gHC → wpAnyH Try.prog .any ops0 Qx S0 3 #[true, true, true, true, true, true, true, true, true, true, true, true, true, true, true, false, false, false] (Act.put (Act.put (Act.put (Act.put (Act.put (Act.put (Act.put (Act.put (Act.put a0 (some 22) v22_) (some 23) v23_) (some 26) v26_) (some 27) v27_) (some 30) v30_) (some 31) v31_) (some 7) (.pointer (some ⟨gHA, 0, none⟩))) (some 8) (.pointer (some ⟨gHB, 0, none⟩))) (some 9) (.pointer (some ⟨gHC, 0, none⟩))) W) := by
      refine hi ?_
      intro W1 gHA gHB gHC q1 HA geHA HB geHB HC geHC neHAHB neHAHC neHBHC
      cases e1; cases e2; cases e3; cases e4; cases f22_; cases f23_; cases f26_; cases f27_; cases f30_; cases f31_
      try simp only [Act.put, x5, x6, x7]
      refine r1 (i := 15) rfl (fun K hK => ?_)
      obtain ⟨k0, k1⟩ := HA.out.two
      obtain ⟨f0, f1⟩ := HA.out.free2
      go_simp
      refine hK.out _ _ ?_ (fun q2 => ?_)
      · exact ⟨(((id q1).1.far (by dsimp only; omega) _).far (by dsimp only; omega) _), (((id q1).2.1.far (by dsimp only; omega) _).far (by dsimp only; omega) _), (((id q1).2.2.1.far (by dsimp only; omega) _).far (by dsimp only; omega) _), (((id q1).2.2.2.set (by dsimp only; omega) _).set (by dsimp only; omega) _)⟩
      replace HB := hi ((id q2).2.2.2.far2 HB.out (by dsimp only; omega) (by dsimp only; omega))
      replace HC := hi ((id q2).2.2.2.far2 HC.out (by dsimp only; omega) (by dsimp only; omega))
      replace HA := hi (HA.out.set2 (.int .u64 (LH ((b.x - a.x) * (b.x - a.x) + (b.y - a.y) * (b.y - a.y)))) (.int .u64 (LL ((b.x - a.x) * (b.x - a.x) + (b.y - a.y) * (b.y - a.y)))))
      clear hK K q1 k0 k1 f0 f1
      have q1 := q2
      clear q2
      try simp only [x5, x6, x7]
      refine r1 (i := 16) rfl (fun K hK => ?_)
      obtain ⟨k0, k1⟩ := HB.out.two
      obtain ⟨f0, f1⟩ := HB.out.free2
      go_simp
      refine hK.out _ _ ?_ (fun q2 => ?_)
      · exact ⟨(((id q1).1.far (by dsimp only; omega) _).far (by dsimp only; omega) _), (((id q1).2.1.far (by dsimp only; omega) _).far (by dsimp only; omega) _), (((id q1).2.2.1.far (by dsimp only; omega) _).far (by dsimp only; omega) _), (((id q1).2.2.2.set (by dsimp only; omega) _).set (by dsimp only; omega) _)⟩
      replace HA := hi ((id q2).2.2.2.far2 HA.out (by dsimp only; omega) (by dsimp only; omega))
      replace HC := hi ((id q2).2.2.2.far2 HC.out (by dsimp only; omega) (by dsimp only; omega))
      replace HB := hi (HB.out.set2 (.int .u64 (LH ((c.x - b.x) * (c.x - b.x) + (c.y - b.y) * (c.y - b.y)))) (.int .u64 (LL ((c.x - b.x) * (c.x - b.x) + (c.y - b.y) * (c.y - b.y)))))
      clear hK K q1 k0 k1 f0 f1
      have q1 := q2
      clear q2
      try simp only [x5, x6, x7]
      refine r1 (i := 17) rfl (fun K hK => ?_)
      obtain ⟨k0, k1⟩ := HC.out.two
      obtain ⟨f0, f1⟩ := HC.out.free2
      go_simp
      refine hK.out _ _ ?_ (fun q2 => ?_)
      · exact ⟨(((id q1).1.far (by dsimp only; omega) _).far (by dsimp only; omega) _), (((id q1).2.1.far (by dsimp only; omega) _).far (by dsimp only; omega) _), (((id q1).2.2.1.far (by dsimp only; omega) _).far (by dsimp only; omega) _), (((id q1).2.2.2.set (by dsimp only; omega) _).set (by dsimp only; omega) _)⟩
      replace HA := hi ((id q2).2.2.2.far2 HA.out (by dsimp only; omega) (by dsimp only; omega))
      replace HB := hi ((id q2).2.2.2.far2 HB.out (by dsimp only; omega) (by dsimp only; omega))
      replace HC := hi (HC.out.set2 (.int .u64 (LH ((a.x - c.x) * (a.x - c.x) + (a.y - c.y) * (a.y - c.y)))) (.int .u64 (LL ((a.x - c.x) * (a.x - c.x) + (a.y - c.y) * (a.y - c.y)))))
      clear hK K q1 k0 k1 f0 f1
      have q1 := q2
      clear q2
      try simp only [x5, x6, x7]
      refine wpAnyH_done (by kernel_rfl) ?_ _
      go_wp2_with fail
      go_meet
      case rel => exact ⟨gHA, gHB, gHC, rfl, rfl, rfl, ⟨geHA, geHB, geHC, neHAHB, neHAHC, neHBHC⟩, HA.out, HB.out, HC.out, id q1⟩
    have s1_ : Hid (∀ (W : World) (gHA : Nat) (gHB : Nat), S0 W → Hid (Var W gHA [.int .u64 0, .int .u64 0]) → w.heap.size + 3 ≤ gHA → Hid (Var W gHB [.int .u64 0, .int .u64 0]) → w.heap.size + 3 ≤ gHB → gHA ≠ gHB → wpAnyH Try.prog .any ops0 Qx S0 4 #[true, true, true, true, true, true, true, true, true, true, true, true, true, true, false, false, false, false] (Act.put (Act.put (Act.put (Act.put (Act.put (Act.put (Act.put (Act.put a0 (some 22) v22_) (some 23) v23_) (some 26) v26_) (some 27) v27_) (some 30) v30_) (some 31) v31_) (some 7) (.pointer (some ⟨gHA, 0, none⟩))) (some 8) (.pointer (some ⟨gHB, 0, none⟩))) W) := by
      refine hi ?_
      intro W1 gHA gHB q1 HA geHA HB geHB neHAHB
      cases e1; cases e2; cases e3; cases e4; cases f22_; cases f23_; cases f26_; cases f27_; cases f30_; cases f31_
      try simp only [Act.put, x5, x6, x7]
      refine r1 (i := 14) rfl (fun K hK => ?_)
      · go_simp
        refine hK.out _ _ ?_ (fun q2 => ?_)
        · exact ⟨(id q1).1.below (bl_one _ _), (id q1).2.1.below (bl_one _ _), (id q1).2.2.1.below (bl_one _ _), (id q1).2.2.2.below (bl_one _ _)⟩
        refine wpAnyH_as (s0_.out _ gHA gHB _ q2 (hi (HA.out.below (al_of (id q2).2.2.2 (bl_one _ _)))) geHA (hi (HB.out.below (al_of (id q2).2.2.2 (bl_one _ _)))) geHB (hi ((id q1).2.2.2.var2 (.int .u64 0) (.int .u64 0) 67)) (id q1).2.2.2.sz neHAHB (Nat.ne_of_lt HA.out.lt) (Nat.ne_of_lt HB.out.lt)) (by kernel_rfl) (by kernel_rfl) (by kernel_rfl)
    have s2_ : Hid (∀ (W : World) (gHA : Nat) (gHC : Nat), S0 W → Hid (Var W gHA [.int .u64 0, .int .u64 0]) → w.heap.size + 3 ≤ gHA → Hid (Var W gHC [.int .u64 0, .int .u64 0]) → w.heap.size + 3 ≤ gHC → gHA ≠ gHC → wpAnyH Try.prog .any ops0 Qx S0 4 #[true, true, true, true, true, true, true, true, true, true, true, true, true, false, true, false, false, false] (Act.put (Act.put (Act.put (Act.put (Act.put (Act.put (Act.put (Act.put a0 (some 22) v22_) (some 23) v23_) (some 26) v26_) (some 27) v27_) (some 30) v30_) (some 31) v31_) (some 7) (.pointer (some ⟨gHA, 0, none⟩))) (some 9) (.pointer (some ⟨gHC, 0, none⟩))) W) := by
      clear s1_
      refine hi ?_
      intro W1 gHA gHC q1 HA geHA HC geHC neHAHC
      cases e1; cases e2; cases e3; cases e4; cases f22_; cases f23_; cases f26_; cases f27_; cases f30_; cases f31_
      try simp only [Act.put, x5, x6, x7]
      refine r1 (i := 13) rfl (fun K hK => ?_)
      · go_simp
        refine hK.out _ _ ?_ (fun q2 => ?_)
        · exact ⟨(id q1).1.below (bl_one _ _), (id q1).2.1.below (bl_one _ _), (id q1).2.2.1.below (bl_one _ _), (id q1).2.2.2.below (bl_one _ _)⟩
        refine wpAnyH_as (s0_.out _ gHA _ gHC q2 (hi (HA.out.below (al_of (id q2).2.2.2 (bl_one _ _)))) geHA (hi ((id q1).2.2.2.var2 (.int .u64 0) (.int .u64 0) 67)) (id q1).2.2.2.sz (hi (HC.out.below (al_of (id q2).2.2.2 (bl_one _ _)))) geHC (Nat.ne_of_lt HA.out.lt) neHAHC (Nat.ne_of_gt HC.out.lt)) (by kernel_rfl) (by kernel_rfl) (by kernel_rfl)
    have s3_ : Hid (∀ (W : World) (gHA : Nat), S0 W → Hid (Var W gHA [.int .u64 0, .int .u64 0]) → w.heap.size + 3 ≤ gHA → wpAnyH Try.prog .any ops0 Qx S0 5 #[true, true, true, true, true, true, true, true, true, true, true, true, true, false, false, false, false, false] (Act.put (Act.put (Act.put (Act.put (Act.put (Act.put (Act.put a0 (some 22) v22_) (some 23) v23_) (some 26) v26_) (some 27) v27_) (some 30) v30_) (some 31) v31_) (some 7) (.pointer (some ⟨gHA, 0, none⟩))) W) := by
      clear s0_
      refine hi ?_
      intro W1 gHA q1 HA geHA
      cases e1; cases e2; cases e3; cases e4; cases f22_; cases f23_; cases f26_; cases f27_; cases f30_; cases f31_
      try simp only [Act.put, x5, x6, x7]
      refine r2 (i := 13) (j := 14) rfl (fun K hK => ?_) rfl (fun K hK => ?_)
      · go_simp
        refine hK.out _ _ ?_ (fun q2 => ?_)
        · exact ⟨(id q1).1.below (bl_one _ _), (id q1).2.1.below (bl_one _ _), (id q1).2.2.1.below (bl_one _ _), (id q1).2.2.2.below (bl_one _ _)⟩
        refine wpAnyH_as (s1_.out _ gHA _ q2 (hi (HA.out.below (al_of (id q2).2.2.2 (bl_one _ _)))) geHA (hi ((id q1).2.2.2.var2 (.int .u64 0) (.int .u64 0) 67)) (id q1).2.2.2.sz (Nat.ne_of_lt HA.out.lt)) (by kernel_rfl) (by kernel_rfl) (by kernel_rfl)
      · go_simp
        refine hK.out _ _ ?_ (fun q2 => ?_)
        · exact ⟨(id q1).1.below (bl_one _ _), (id q1).2.1.below (bl_one _ _), (id q1).2.2.1.below (bl_one _ _), (id q1).2.2.2.below (bl_one _ _)⟩
        refine wpAnyH_as (s2_.out _ gHA _ q2 (hi (HA.out.below (al_of (id q2).2.2.2 (bl_one _ _)))) geHA (hi ((id q1).2.2.2.var2 (.int .u64 0) (.int .u64 0) 67)) (id q1).2.2.2.sz (Nat.ne_of_lt HA.out.lt)) (by kernel_rfl) (by kernel_rfl) (by kernel_rfl)
    have s4_ : Hid (∀ (W : World) (gHB : Nat) (gHC : Nat), S0 W → Hid (Var W gHB [.int .u64 0, .int .u64 0]) → w.heap.size + 3 ≤ gHB → Hid (Var W gHC [.int .u64 0, .int .u64 0]) → w.heap.size + 3 ≤ gHC → gHB ≠ gHC → wpAnyH Try.prog .any ops0 Qx S0 4 #[true, true, true, true, true, true, true, true, true, true, true, true, false, true, true, false, false, false] (Act.put (Act.put (Act.put (Act.put (Act.put (Act.put (Act.put (Act.put a0 (some 22) v22_) (some 23) v23_) (some 26) v26_) (some 27) v27_) (some 30) v30_) (some 31) v31_) (some 8) (.pointer (some ⟨gHB, 0, none⟩))) (some 9) (.pointer (some ⟨gHC, 0, none⟩))) W) := by
      clear s1_ s2_ s3_
      refine hi ?_
      intro W1 gHB gHC q1 HB geHB HC geHC neHBHC
      cases e1; cases e2; cases e3; cases e4; cases f22_; cases f23_; cases f26_; cases f27_; cases f30_; cases f31_
      try simp only [Act.put, x5, x6, x7]
      refine r1 (i := 12) rfl (fun K hK => ?_)
      · go_simp
        refine hK.out _ _ ?_ (fun q2 => ?_)
        · exact ⟨(id q1).1.below (bl_one _ _), (id q1).2.1.below (bl_one _ _), (id q1).2.2.1.below (bl_one _ _), (id q1).2.2.2.below (bl_one _ _)⟩
        refine wpAnyH_as (s0_.out _ _ gHB gHC q2 (hi ((id q1).2.2.2.var2 (.int .u64 0) (.int .u64 0) 67)) (id q1).2.2.2.sz (hi (HB.out.below (al_of (id q2).2.2.2 (bl_one _ _)))) geHB (hi (HC.out.below (al_of (id q2).2.2.2 (bl_one _ _)))) geHC (Nat.ne_of_gt HB.out.lt) (Nat.ne_of_gt HC.out.lt) neHBHC) (by kernel_rfl) (by kernel_rfl) (by kernel_rfl)
    have s5_ : Hid (∀ (W : World) (gHB : Nat), S0 W → Hid (Var W gHB [.int .u64 0, .int .u64 0]) → w.heap.size + 3 ≤ gHB → wpAnyH Try.prog .any ops0 Qx S0 5 #[true, true, true, true, true, true, true, true, true, true, true, true, false, true, false, false, false, false] (Act.put (Act.put (Act.put (Act.put (Act.put (Act.put (Act.put a0 (some 22) v22_) (some 23) v23_) (some 26) v26_) (some 27) v27_) (some 30) v30_) (some 31) v31_) (some 8) (.pointer (some ⟨gHB, 0, none⟩))) W) := by
      clear s0_ s2_ s3_
      refine hi ?_
      intro W1 gHB q1 HB geHB
      cases e1; cases e2; cases e3; cases e4; cases f22_; cases f23_; cases f26_; cases f27_; cases f30_; cases f31_
      try simp only [Act.put, x5, x6, x7]
      refine r2 (i := 12) (j := 14) rfl (fun K hK => ?_) rfl (fun K hK => ?_)
      · go_simp
        refine hK.out _ _ ?_ (fun q2 => ?_)
        · exact ⟨(id q1).1.below (bl_one _ _), (id q1).2.1.below (bl_one _ _), (id q1).2.2.1.below (bl_one _ _), (id q1).2.2.2.below (bl_one _ _)⟩
        refine wpAnyH_as (s1_.out _ _ gHB q2 (hi ((id q1).2.2.2.var2 (.int .u64 0) (.int .u64 0) 67)) (id q1).2.2.2.sz (hi (HB.out.below (al_of (id q2).2.2.2 (bl_one _ _)))) geHB (Nat.ne_of_gt HB.out.lt)) (by kernel_rfl) (by kernel_rfl) (by kernel_rfl)
      · go_simp
        refine hK.out _ _ ?_ (fun q2 => ?_)
        · exact ⟨(id q1).1.below (bl_one _ _), (id q1).2.1.below (bl_one _ _), (id q1).2.2.1.below (bl_one _ _), (id q1).2.2.2.below (bl_one _ _)⟩
        refine wpAnyH_as (s4_.out _ gHB _ q2 (hi (HB.out.below (al_of (id q2).2.2.2 (bl_one _ _)))) geHB (hi ((id q1).2.2.2.var2 (.int .u64 0) (.int .u64 0) 67)) (id q1).2.2.2.sz (Nat.ne_of_lt HB.out.lt)) (by kernel_rfl) (by kernel_rfl) (by kernel_rfl)
    have s6_ : Hid (∀ (W : World) (gHC : Nat), S0 W → Hid (Var W gHC [.int .u64 0, .int .u64 0]) → w.heap.size + 3 ≤ gHC → wpAnyH Try.prog .any ops0 Qx S0 5 #[true, true, true, true, true, true, true, true, true, true, true, true, false, false, true, false, false, false] (Act.put (Act.put (Act.put (Act.put (Act.put (Act.put (Act.put a0 (some 22) v22_) (some 23) v23_) (some 26) v26_) (some 27) v27_) (some 30) v30_) (some 31) v31_) (some 9) (.pointer (some ⟨gHC, 0, none⟩))) W) := by
      clear s0_ s1_ s3_ s5_
      refine hi ?_
      intro W1 gHC q1 HC geHC
      cases e1; cases e2; cases e3; cases e4; cases f22_; cases f23_; cases f26_; cases f27_; cases f30_; cases f31_
      try simp only [Act.put, x5, x6, x7]
      refine r2 (i := 12) (j := 13) rfl (fun K hK => ?_) rfl (fun K hK => ?_)
      · go_simp
        refine hK.out _ _ ?_ (fun q2 => ?_)
        · exact ⟨(id q1).1.below (bl_one _ _), (id q1).2.1.below (bl_one _ _), (id q1).2.2.1.below (bl_one _ _), (id q1).2.2.2.below (bl_one _ _)⟩
        refine wpAnyH_as (s2_.out _ _ gHC q2 (hi ((id q1).2.2.2.var2 (.int .u64 0) (.int .u64 0) 67)) (id q1).2.2.2.sz (hi (HC.out.below (al_of (id q2).2.2.2 (bl_one _ _)))) geHC (Nat.ne_of_gt HC.out.lt)) (by kernel_rfl) (by kernel_rfl) (by kernel_rfl)
      · go_simp
        refine hK.out _ _ ?_ (fun q2 => ?_)
        · exact ⟨(id q1).1.below (bl_one _ _), (id q1).2.1.below (bl_one _ _), (id q1).2.2.1.below (bl_one _ _), (id q1).2.2.2.below (bl_one _ _)⟩
        refine wpAnyH_as (s4_.out _ _ gHC q2 (hi ((id q1).2.2.2.var2 (.int .u64 0) (.int .u64 0) 67)) (id q1).2.2.2.sz (hi (HC.out.below (al_of (id q2).2.2.2 (bl_one _ _)))) geHC (Nat.ne_of_gt HC.out.lt)) (by kernel_rfl) (by kernel_rfl) (by kernel_rfl)
    have s7_ : Hid (∀ (W : World), S0 W → wpAnyH Try.prog .any ops0 Qx S0 6 #[true, true, true, true, true, true, true, true, true, true, true, true, false, false, false, false, false, false] (Act.put (Act.put (Act.put (Act.put (Act.put (Act.put a0 (some 22) v22_) (some 23) v23_) (some 26) v26_) (some 27) v27_) (some 30) v30_) (some 31) v31_) W) := by
      clear s0_ s1_ s2_ s4_
      refine hi ?_
      intro W1  q1 
      cases e1; cases e2; cases e3; cases e4; cases f22_; cases f23_; cases f26_; cases f27_; cases f30_; cases f31_
      try simp only [Act.put, x5, x6, x7]
      refine wpAnyH_ready (rs := [12, 13, 14]) (by kernel_rfl) (by simp) ?_
      refine (AllReadyH.cons rfl (fun K hK => ?_) (AllReadyH.cons rfl (fun K hK => ?_) (AllReadyH.cons rfl (fun K hK => ?_) AllReadyH.nil)))
      · rw [if_pos (by rfl)]
        go_simp
        refine hK.out _ _ ?_ (fun q2 => ?_)
        · exact ⟨(id q1).1.below (bl_one _ _), (id q1).2.1.below (bl_one _ _), (id q1).2.2.1.below (bl_one _ _), (id q1).2.2.2.below (bl_one _ _)⟩
        refine wpAnyH_as (s3_.out _ _ q2 (hi ((id q1).2.2.2.var2 (.int .u64 0) (.int .u64 0) 67)) (id q1).2.2.2.sz) (by kernel_rfl) (by kernel_rfl) (by kernel_rfl)
      · rw [if_pos (by rfl)]
        go_simp
        refine hK.out _ _ ?_ (fun q2 => ?_)
        · exact ⟨(id q1).1.below (bl_one _ _), (id q1).2.1.below (bl_one _ _), (id q1).2.2.1.below (bl_one _ _), (id q1).2.2.2.below (bl_one _ _)⟩
        refine wpAnyH_as (s5_.out _ _ q2 (hi ((id q1).2.2.2.var2 (.int .u64 0) (.int .u64 0) 67)) (id q1).2.2.2.sz) (by kernel_rfl) (by kernel_rfl) (by kernel_rfl)
      · rw [if_pos (by rfl)]
        go_simp
        refine hK.out _ _ ?_ (fun q2 => ?_)
        · exact ⟨(id q1).1.below (bl_one _ _), (id q1).2.1.below (bl_one _ _), (id q1).2.2.1.below (bl_one _ _), (id q1).2.2.2.below (bl_one _ _)⟩
        refine wpAnyH_as (s6_.out _ _ q2 (hi ((id q1).2.2.2.var2 (.int .u64 0) (.int .u64 0) 67)) (id q1).2.2.2.sz) (by kernel_rfl) (by kernel_rfl) (by kernel_rfl)
    have s8_ : Hid (∀ (W : World) (gHA : Nat) (gHB : Nat) (gHC : Nat), S0 W → Hid (Var W gHA [.int .u64 0, .int .u64 0]) → w.heap.size + 3 ≤ gHA → Hid (Var W gHB [.int .u64 0, .int .u64 0]) → w.heap.size + 3 ≤ gHB → Hid (Var W gHC [.int .u64 0, .int .u64 0]) → w.heap.size + 3 ≤ gHC → gHA ≠ gHB → gHA ≠ gHC → gHB ≠ gHC → wpAnyH Try.prog .any ops0 Qx S0 4 #[true, true, true, true, true, true, true, true, true, true, true, false, true, true, true, false, false, false] (Act.put (Act.put (Act.put (Act.put (Act.put (Act.put (Act.put (Act.put a0 (some 22) v22_) (some 23) v23_) (some 26) v26_) (some 27) v27_) (some 30) v30_) (some 7) (.pointer (some ⟨gHA, 0, none⟩))) (some 8) (.pointer (some ⟨gHB, 0, none⟩))) (some 9) (.pointer (some ⟨gHC, 0, none⟩))) W) := by
      clear s1_ s2_ s3_ s4_ s5_ s6_ s7_
      refine hi ?_
      intro W1 gHA gHB gHC q1 HA geHA HB geHB HC geHC neHAHB neHAHC neHBHC
      cases e1; cases e2; cases e3; cases e4; cases f22_; cases f23_; cases f26_; cases f27_; cases f30_; cases f31_
      try simp only [Act.put, x5, x6, x7]
      refine r1 (i := 11) rfl (fun K hK => ?_)
      · go_simp
        go_at_call 64
        (with_reducible refine (square_l _ _ Rca.out.1 Rca.out.2 _).mono ?_); rintro e w1 ⟨rfl, hb1⟩
        go_wp2_with fail
        refine hK.out _ _ ?_ (fun q2 => ?_)
        · exact ⟨(id q1).1.below hb1, (id q1).2.1.below hb1, (id q1).2.2.1.below hb1, (id q1).2.2.2.below hb1⟩
        refine wpAnyH_as (s0_.out _ gHA gHB gHC q2 (hi (HA.out.below hb1)) geHA (hi (HB.out.below hb1)) geHB (hi (HC.out.below hb1)) geHC neHAHB neHAHC neHBHC) (by kernel_rfl) (by kernel_rfl) (by kernel_rfl)
    have s9_ : Hid (∀ (W : World) (gHA : Nat) (gHB : Nat), S0 W → Hid (Var W gHA [.int .u64 0, .int .u64 0]) → w.heap.size + 3 ≤ gHA → Hid (Var W gHB [.int .u64 0, .int .u64 0]) → w.heap.size + 3 ≤ gHB → gHA ≠ gHB → wpAnyH Try.prog .any ops0 Qx S0 5 #[true, true, true, true, true, true, true, true, true, true, true, false, true, true, false, false, false, false] (Act.put (Act.put (Act.put (Act.put (Act.put (Act.put (Act.put a0 (some 22) v22_) (some 23) v23_) (some 26) v26_) (some 27) v27_) (some 30) v30_) (some 7) (.pointer (some ⟨gHA, 0, none⟩))) (some 8) (.pointer (some ⟨gHB, 0, none⟩))) W) := by
      clear s0_ s2_ s3_ s4_ s5_ s6_ s7_
      refine hi ?_
      intro W1 gHA gHB q1 HA geHA HB geHB neHAHB
      cases e1; cases e2; cases e3; cases e4; cases f22_; cases f23_; cases f26_; cases f27_; cases f30_; cases f31_
      try simp only [Act.put, x5, x6, x7]
      refine r2 (i := 11) (j := 14) rfl (fun K hK => ?_) rfl (fun K hK => ?_)
      · go_simp
        go_at_call 64
        (with_reducible refine (square_l _ _ Rca.out.1 Rca.out.2 _).mono ?_); rintro e w1 ⟨rfl, hb1⟩
        go_wp2_with fail
        refine hK.out _ _ ?_ (fun q2 => ?_)
        · exact ⟨(id q1).1.below hb1, (id q1).2.1.below hb1, (id q1).2.2.1.below hb1, (id q1).2.2.2.below hb1⟩
        refine wpAnyH_as (s1_.out _ gHA gHB q2 (hi (HA.out.below hb1)) geHA (hi (HB.out.below hb1)) geHB neHAHB) (by kernel_rfl) (by kernel_rfl) (by kernel_rfl)
      · go_simp
        refine hK.out _ _ ?_ (fun q2 => ?_)
        · exact ⟨(id q1).1.below (bl_one _ _), (id q1).2.1.below (bl_one _ _), (id q1).2.2.1.below (bl_one _ _), (id q1).2.2.2.below (bl_one _ _)⟩
        refine wpAnyH_as (s8_.out _ gHA gHB _ q2 (hi (HA.out.below (al_of (id q2).2.2.2 (bl_one _ _)))) geHA (hi (HB.out.below (al_of (id q2).2.2.2 (bl_one _ _)))) geHB (hi ((id q1).2.2.2.var2 (.int .u64 0) (.int .u64 0) 67)) (id q1).2.2.2.sz neHAHB (Nat.ne_of_lt HA.out.lt) (Nat.ne_of_lt HB.out.lt)) (by kernel_rfl) (by kernel_rfl) (by kernel_rfl)
    have s10_ : Hid (∀ (W : World) (gHA : Nat) (gHC : Nat), S0 W → Hid (Var W gHA [.int .u64 0, .int .u64 0]) → w.heap.size + 3 ≤ gHA → Hid (Var W gHC [.int .u64 0, .int .u64 0]) → w.heap.size + 3 ≤ gHC → gHA ≠ gHC → wpAnyH Try.prog .any ops0 Qx S0 5 #[true, true, true, true, true, true, true, true, true, true, true, false, true, false, true, false, false, false] (Act.put (Act.put (Act.put (Act.put (Act.put (Act.put (Act.put a0 (some 22) v22_) (some 23) v23_) (some 26) v26_) (some 27) v27_) (some 30) v30_) (some 7) (.pointer (some ⟨gHA, 0, none⟩))) (some 9) (.pointer (some ⟨gHC, 0, none⟩))) W) := by
      clear s0_ s1_ s3_ s4_ s5_ s6_ s7_ s9_
      refine hi ?_
      intro W1 gHA gHC q1 HA geHA HC geHC neHAHC
      cases e1; cases e2; cases e3; cases e4; cases f22_; cases f23_; cases f26_; cases f27_; cases f30_; cases f31_
      try simp only [Act.put, x5, x6, x7]
      refine r2 (i := 11) (j := 13) rfl (fun K hK => ?_) rfl (fun K hK => ?_)
      · go_simp
        go_at_call 64
        (with_reducible refine (square_l _ _ Rca.out.1 Rca.out.2 _).mono ?_); rintro e w1 ⟨rfl, hb1⟩
        go_wp2_with fail
        refine hK.out _ _ ?_ (fun q2 => ?_)
        · exact ⟨(id q1).1.below hb1, (id q1).2.1.below hb1, (id q1).2.2.1.below hb1, (id q1).2.2.2.below hb1⟩
        refine wpAnyH_as (s2_.out _ gHA gHC q2 (hi (HA.out.below hb1)) geHA (hi (HC.out.below hb1)) geHC neHAHC) (by kernel_rfl) (by kernel_rfl) (by kernel_rfl)
      · go_simp
        refine hK.out _ _ ?_ (fun q2 => ?_)
        · exact ⟨(id q1).1.below (bl_one _ _), (id q1).2.1.below (bl_one _ _), (id q1).2.2.1.below (bl_one _ _), (id q1).2.2.2.below (bl_one _ _)⟩
        refine wpAnyH_as (s8_.out _ gHA _ gHC q2 (hi (HA.out.below (al_of (id q2).2.2.2 (bl_one _ _)))) geHA (hi ((id q1).2.2.2.var2 (.int .u64 0) (.int .u64 0) 67)) (id q1).2.2.2.sz (hi (HC.out.below (al_of (id q2).2.2.2 (bl_one _ _)))) geHC (Nat.ne_of_lt HA.out.lt) neHAHC (Nat.ne_of_gt HC.out.lt)) (by kernel_rfl) (by kernel_rfl) (by kernel_rfl)
    have s11_ : Hid (∀ (W : World) (gHA : Nat), S0 W → Hid (Var W gHA [.int .u64 0, .int .u64 0]) → w.heap.size + 3 ≤ gHA → wpAnyH Try.prog .any ops0 Qx S0 6 #[true, true, true, true, true, true, true, true, true, true, true, false, true, false, false, false, false, false] (Act.put (Act.put (Act.put (Act.put (Act.put (Act.put a0 (some 22) v22_) (some 23) v23_) (some 26) v26_) (some 27) v27_) (some 30) v30_) (some 7) (.pointer (some ⟨gHA, 0, none⟩))) W) := by
      clear s0_ s1_ s2_ s4_ s5_ s6_ s7_ s8_
      refine hi ?_
      intro W1 gHA q1 HA geHA
      cases e1; cases e2; cases e3; cases e4; cases f22_; cases f23_; cases f26_; cases f27_; cases f30_; cases f31_
      try simp only [Act.put, x5, x6, x7]
      refine wpAnyH_ready (rs := [11, 13, 14]) (by kernel_rfl) (by simp) ?_
      refine (AllReadyH.cons rfl (fun K hK => ?_) (AllReadyH.cons rfl (fun K hK => ?_) (AllReadyH.cons rfl (fun K hK => ?_) AllReadyH.nil)))
      · rw [if_pos (by rfl)]
        go_simp
        go_at_call 64
        (with_reducible refine (square_l _ _ Rca.out.1 Rca.out.2 _).mono ?_); rintro e w1 ⟨rfl, hb1⟩
        go_wp2_with fail
        refine hK.out _ _ ?_ (fun q2 => ?_)
        · exact ⟨(id q1).1.below hb1, (id q1).2.1.below hb1, (id q1).2.2.1.below hb1, (id q1).2.2.2.below hb1⟩
        refine wpAnyH_as (s3_.out _ gHA q2 (hi (HA.out.below hb1)) geHA) (by kernel_rfl) (by kernel_rfl) (by kernel_rfl)
      · rw [if_pos (by rfl)]
        go_simp
        refine hK.out _ _ ?_ (fun q2 => ?_)
        · exact ⟨(id q1).1.below (bl_one _ _), (id q1).2.1.below (bl_one _ _), (id q1).2.2.1.below (bl_one _ _), (id q1).2.2.2.below (bl_one _ _)⟩
        refine wpAnyH_as (s9_.out _ gHA _ q2 (hi (HA.out.below (al_of (id q2).2.2.2 (bl_one _ _)))) geHA (hi ((id q1).2.2.2.var2 (.int .u64 0) (.int .u64 0) 67)) (id q1).2.2.2.sz (Nat.ne_of_lt HA.out.lt)) (by kernel_rfl) (by kernel_rfl) (by kernel_rfl)
      · rw [if_pos (by rfl)]
        go_simp
        refine hK.out _ _ ?_ (fun q2 => ?_)
        · exact ⟨(id q1).1.below (bl_one _ _), (id q1).2.1.below (bl_one _ _), (id q1).2.2.1.below (bl_one _ _), (id q1).2.2.2.below (bl_one _ _)⟩
        refine wpAnyH_as (s10_.out _ gHA _ q2 (hi (HA.out.below (al_of (id q2).2.2.2 (bl_one _ _)))) geHA (hi ((id q1).2.2.2.var2 (.int .u64 0) (.int .u64 0) 67)) (id q1).2.2.2.sz (Nat.ne_of_lt HA.out.lt)) (by kernel_rfl) (by kernel_rfl) (by kernel_rfl)
    have s12_ : Hid (∀ (W : World) (gHB : Nat) (gHC : Nat), S0 W → Hid (Var W gHB [.int .u64 0, .int .u64 0]) → w.heap.size + 3 ≤ gHB → Hid (Var W gHC [.int .u64 0, .int .u64 0]) → w.heap.size + 3 ≤ gHC → gHB ≠ gHC → wpAnyH Try.prog .any ops0 Qx S0 5 #[true, true, true, true, true, true, true, true, true, true, true, false, false, true, true, false, false, false] (Act.put (Act.put (Act.put (Act.put (Act.put (Act.put (Act.put a0 (some 22) v22_) (some 23) v23_) (some 26) v26_) (some 27) v27_) (some 30) v30_) (some 8) (.pointer (some ⟨gHB, 0, none⟩))) (some 9) (.pointer (some ⟨gHC, 0, none⟩))) W) := by
      clear s0_ s1_ s2_ s3_ s5_ s6_ s7_ s9_ s10_ s11_
      refine hi ?_
      intro W1 gHB gHC q1 HB geHB HC geHC neHBHC
      cases e1; cases e2; cases e3; cases e4; cases f22_; cases f23_; cases f26_; cases f27_; cases f30_; cases f31_
      try simp only [Act.put, x5, x6, x7]
      refine r2 (i := 11) (j := 12) rfl (fun K hK => ?_) rfl (fun K hK => ?_)
      · go_simp
        go_at_call 64
        (with_reducible refine (square_l _ _ Rca.out.1 Rca.out.2 _).mono ?_); rintro e w1 ⟨rfl, hb1⟩
        go_wp2_with fail
        refine hK.out _ _ ?_ (fun q2 => ?_)
        · exact ⟨(id q1).1.below hb1, (id q1).2.1.below hb1, (id q1).2.2.1.below hb1, (id q1).2.2.2.below hb1⟩
        refine wpAnyH_as (s4_.out _ gHB gHC q2 (hi (HB.out.below hb1)) geHB (hi (HC.out.below hb1)) geHC neHBHC) (by kernel_rfl) (by kernel_rfl) (by kernel_rfl)
      · go_simp
        refine hK.out _ _ ?_ (fun q2 => ?_)
        · exact ⟨(id q1).1.below (bl_one _ _), (id q1).2.1.below (bl_one _ _), (id q1).2.2.1.below (bl_one _ _), (id q1).2.2.2.below (bl_one _ _)⟩
        refine wpAnyH_as (s8_.out _ _ gHB gHC q2 (hi ((id q1).2.2.2.var2 (.int .u64 0) (.int .u64 0) 67)) (id q1).2.2.2.sz (hi (HB.out.below (al_of (id q2).2.2.2 (bl_one _ _)))) geHB (hi (HC.out.below (al_of (id q2).2.2.2 (bl_one _ _)))) geHC (Nat.ne_of_gt HB.out.lt) (Nat.ne_of_gt HC.out.lt) neHBHC) (by kernel_rfl) (by kernel_rfl) (by kernel_rfl)
    have s13_ : Hid (∀ (W : World) (gHB : Nat), S0 W → Hid (Var W gHB [.int .u64 0, .int .u64 0]) → w.heap.size + 3 ≤ gHB → wpAnyH Try.prog .any ops0 Qx S0 6 #[true, true, true, true, true, true, true, true, true, true, true, false, false, true, false, false, false, false] (Act.put (Act.put (Act.put (Act.put (Act.put (Act.put a0 (some 22) v22_) (some 23) v23_) (some 26) v26_) (some 27) v27_) (some 30) v30_) (some 8) (.pointer (some ⟨gHB, 0, none⟩))) W) := by
      clear s0_ s1_ s2_ s3_ s4_ s6_ s7_ s8_ s10_ s11_
      refine hi ?_
      intro W1 gHB q1 HB geHB
      cases e1; cases e2; cases e3; cases e4; cases f22_; cases f23_; cases f26_; cases f27_; cases f30_; cases f31_
      try simp only [Act.put, x5, x6, x7]
      refine wpAnyH_ready (rs := [11, 12, 14]) (by kernel_rfl) (by simp) ?_
      refine (AllReadyH.cons rfl (fun K hK => ?_) (AllReadyH.cons rfl (fun K hK => ?_) (AllReadyH.cons rfl (fun K hK => ?_) AllReadyH.nil)))
      · rw [if_pos (by rfl)]
        go_simp
        go_at_call 64
        (with_reducible refine (square_l _ _ Rca.out.1 Rca.out.2 _).mono ?_); rintro e w1 ⟨rfl, hb1⟩
        go_wp2_with fail
        refine hK.out _ _ ?_ (fun q2 => ?_)
        · exact ⟨(id q1).1.below hb1, (id q1).2.1.below hb1, (id q1).2.2.1.below hb1, (id q1).2.2.2.below hb1⟩
        refine wpAnyH_as (s5_.out _ gHB q2 (hi (HB.out.below hb1)) geHB) (by kernel_rfl) (by kernel_rfl) (by kernel_rfl)
      · rw [if_pos (by rfl)]
        go_simp
        refine hK.out _ _ ?_ (fun q2 => ?_)
        · exact ⟨(id q1).1.below (bl_one _ _), (id q1).2.1.below (bl_one _ _), (id q1).2.2.1.below (bl_one _ _), (id q1).2.2.2.below (bl_one _ _)⟩
        refine wpAnyH_as (s9_.out _ _ gHB q2 (hi ((id q1).2.2.2.var2 (.int .u64 0) (.int .u64 0) 67)) (id q1).2.2.2.sz (hi (HB.out.below (al_of (id q2).2.2.2 (bl_one _ _)))) geHB (Nat.ne_of_gt HB.out.lt)) (by kernel_rfl) (by kernel_rfl) (by kernel_rfl)
      · rw [if_pos (by rfl)]
        go_simp
        refine hK.out _ _ ?_ (fun q2 => ?_)
        · exact ⟨(id q1).1.below (bl_one _ _), (id q1).2.1.below (bl_one _ _), (id q1).2.2.1.below (bl_one _ _), (id q1).2.2.2.below (bl_one _ _)⟩
        refine wpAnyH_as (s12_.out _ gHB _ q2 (hi (HB.out.below (al_of (id q2).2.2.2 (bl_one _ _)))) geHB (hi ((id q1).2.2.2.var2 (.int .u64 0) (.int .u64 0) 67)) (id q1).2.2.2.sz (Nat.ne_of_lt HB.out.lt)) (by kernel_rfl) (by kernel_rfl) (by kernel_rfl)
    have s14_ : Hid (∀ (W : World) (gHC : Nat), S0 W → Hid (Var W gHC [.int .u64 0, .int .u64 0]) → w.heap.size + 3 ≤ gHC → wpAnyH Try.prog .any ops0 Qx S0 6 #[true, true, true, true, true, true, true, true, true, true, true, false, false, false, true, false, false, false] (Act.put (Act.put (Act.put (Act.put (Act.put (Act.put a0 (some 22) v22_) (some 23) v23_) (some 26) v26_) (some 27) v27_) (some 30) v30_) (some 9) (.pointer (some ⟨gHC, 0, none⟩))) W) := by
      clear s0_ s1_ s2_ s3_ s4_ s5_ s7_ s8_ s9_ s11_ s13_
      refine hi ?_
      intro W1 gHC q1 HC geHC
      cases e1; cases e2; cases e3; cases e4; cases f22_; cases f23_; cases f26_; cases f27_; cases f30_; cases f31_
      try simp only [Act.put, x5, x6, x7]
      refine wpAnyH_ready (rs := [11, 12, 13]) (by kernel_rfl) (by simp) ?_
      refine (AllReadyH.cons rfl (fun K hK => ?_) (AllReadyH.cons rfl (fun K hK => ?_) (AllReadyH.cons rfl (fun K hK => ?_) AllReadyH.nil)))
      · rw [if_pos (by rfl)]
        go_simp
        go_at_call 64
        (with_reducible refine (square_l _ _ Rca.out.1 Rca.out.2 _).mono ?_); rintro e w1 ⟨rfl, hb1⟩
        go_wp2_with fail
        refine hK.out _ _ ?_ (fun q2 => ?_)
        · exact ⟨(id q1).1.below hb1, (id q1).2.1.below hb1, (id q1).2.2.1.below hb1, (id q1).2.2.2.below hb1⟩
        refine wpAnyH_as (s6_.out _ gHC q2 (hi (HC.out.below hb1)) geHC) (by kernel_rfl) (by kernel_rfl) (by kernel_rfl)
      · rw [if_pos (by rfl)]
        go_simp
        refine hK.out _ _ ?_ (fun q2 => ?_)
        · exact ⟨(id q1).1.below (bl_one _ _), (id q1).2.1.below (bl_one _ _), (id q1).2.2.1.below (bl_one _ _), (id q1).2.2.2.below (bl_one _ _)⟩
        refine wpAnyH_as (s10_.out _ _ gHC q2 (hi ((id q1).2.2.2.var2 (.int .u64 0) (.int .u64 0) 67)) (id q1).2.2.2.sz (hi (HC.out.below (al_of (id q2).2.2.2 (bl_one _ _)))) geHC (Nat.ne_of_gt HC.out.lt)) (by kernel_rfl) (by kernel_rfl) (by kernel_rfl)
      · rw [if_pos (by rfl)]
        go_simp
        refine hK.out _ _ ?_ (fun q2 => ?_)
        · exact ⟨(id q1).1.below (bl_one _ _), (id q1).2.1.below (bl_one _ _), (id q1).2.2.1.below (bl_one _ _), (id q1).2.2.2.below (bl_one _ _)⟩
        refine wpAnyH_as (s12_.out _ _ gHC q2 (hi ((id q1).2.2.2.var2 (.int .u64 0) (.int .u64 0) 67)) (id q1).2.2.2.sz (hi (HC.out.below (al_of (id q2).2.2.2 (bl_one _ _)))) geHC (Nat.ne_of_gt HC.out.lt)) (by kernel_rfl) (by kernel_rfl) (by kernel_rfl)
    have s15_ : Hid (∀ (W : World), S0 W → wpAnyH Try.prog .any ops0 Qx S0 7 #[true, true, true, true, true, true, true, true, true, true, true, false, false, false, false, false, false, false] (Act.put (Act.put (Act.put (Act.put (Act.put a0 (some 22) v22_) (some 23) v23_) (some 26) v26_) (some 27) v27_) (some 30) v30_) W) := by
      clear s0_ s1_ s2_ s3_ s4_ s5_ s6_ s8_ s9_ s10_ s12_
      refine hi ?_
      intro W1  q1 
      cases e1; cases e2; cases e3; cases e4; cases f22_; cases f23_; cases f26_; cases f27_; cases f30_; cases f31_
      try simp only [Act.put, x5, x6, x7]
      refine wpAnyH_ready (rs := [11, 12, 13, 14]) (by kernel_rfl) (by simp) ?_
      refine (AllReadyH.cons rfl (fun K hK => ?_) (AllReadyH.cons rfl (fun K hK => ?_) (AllReadyH.cons rfl (fun K hK => ?_) (AllReadyH.cons rfl (fun K hK => ?_) AllReadyH.nil))))
      · rw [if_pos (by rfl)]
        go_simp
        go_at_call 64
        (with_reducible refine (square_l _ _ Rca.out.1 Rca.out.2 _).mono ?_); rintro e w1 ⟨rfl, hb1⟩
        go_wp2_with fail
        refine hK.out _ _ ?_ (fun q2 => ?_)
        · exact ⟨(id q1).1.below hb1, (id q1).2.1.below hb1, (id q1).2.2.1.below hb1, (id q1).2.2.2.below hb1⟩
        refine wpAnyH_as (s7_.out _ q2) (by kernel_rfl) (by kernel_rfl) (by kernel_rfl)
      · rw [if_pos (by rfl)]
        go_simp
        refine hK.out _ _ ?_ (fun q2 => ?_)
        · exact ⟨(id q1).1.below (bl_one _ _), (id q1).2.1.below (bl_one _ _), (id q1).2.2.1.below (bl_one _ _), (id q1).2.2.2.below (bl_one _ _)⟩
        refine wpAnyH_as (s11_.out _ _ q2 (hi ((id q1).2.2.2.var2 (.int .u64 0) (.int .u64 0) 67)) (id q1).2.2.2.sz) (by kernel_rfl) (by kernel_rfl) (by kernel_rfl)
      · rw [if_pos (by rfl)]
        go_simp
        refine hK.out _ _ ?_ (fun q2 => ?_)
        · exact ⟨(id q1).1.below (bl_one _ _), (id q1).2.1.below (bl_one _ _), (id q1).2.2.1.below (bl_one _ _), (id q1).2.2.2.below (bl_one _ _)⟩
        refine wpAnyH_as (s13_.out _ _ q2 (hi ((id q1).2.2.2.var2 (.int .u64 0) (.int .u64 0) 67)) (id q1).2.2.2.sz) (by kernel_rfl) (by kernel_rfl) (by kernel_rfl)
      · rw [if_pos (by rfl)]
        go_simp
        refine hK.out _ _ ?_ (fun q2 => ?_)
        · exact ⟨(id q1).1.below (bl_one _ _), (id q1).2.1.below (bl_one _ _), (id q1).2.2.1.below (bl_one _ _), (id q1).2.2.2.below (bl_one _ _)⟩
        refine wpAnyH_as (s14_.out _ _ q2 (hi ((id q1).2.2.2.var2 (.int .u64 0) (.int .u64 0) 67)) (id q1).2.2.2.sz) (by kernel_rfl) (by kernel_rfl) (by kernel_rfl)
    have s16_ : Hid (∀ (W : World) (gHA : Nat) (gHB : Nat) (gHC : Nat), S0 W → Hid (Var W gHA [.int .u64 0, .int .u64 0]) → w.heap.size + 3 ≤ gHA → Hid (Var W gHB [.int .u64 0, .int .u64 0]) → w.heap.size + 3 ≤ gHB → Hid (Var W gHC [.int .u64 0, .int .u64 0]) → w.heap.size + 3 ≤ gHC → gHA ≠ gHB → gHA ≠ gHC → gHB ≠ gHC → wpAnyH Try.prog .any ops0 Qx S0 5 #[true, true, true, true, true, true, true, true, true, true, false, false, true, true, true, false, false, false] (Act.put (Act.put (Act.put (Act.put (Act.put (Act.put (Act.put a0 (some 22) v22_) (some 23) v23_) (some 26) v26_) (some 27) v27_) (some 7) (.pointer (some ⟨gHA, 0, none⟩))) (some 8) (.pointer (some ⟨gHB, 0, none⟩))) (some 9) (.pointer (some ⟨gHC, 0, none⟩))) W) := by
      clear s0_ s1_ s2_ s3_ s4_ s5_ s6_ s7_ s9_ s10_ s11_ s12_ s13_ s14_ s15_
      refine hi ?_
      intro W1 gHA gHB gHC q1 HA geHA HB geHB HC geHC neHAHB neHAHC neHBHC
      cases e1; cases e2; cases e3; cases e4; cases f22_; cases f23_; cases f26_; cases f27_; cases f30_; cases f31_
      try simp only [Act.put, x5, x6, x7]
      refine r1 (i := 10) rfl (fun K hK => ?_)
      · go_simp
        go_at_call 56
        (with_reducible refine (way_l _ _ _ _ Rca.out.1 Rca.out.2 _).mono ?_); rintro e w1 ⟨rfl, hb1⟩
        go_wp2_with fail
        refine hK.out _ _ ?_ (fun q2 => ?_)
        · exact ⟨(id q1).1.below hb1, (id q1).2.1.below hb1, (id q1).2.2.1.below hb1, (id q1).2.2.2.below hb1⟩
        refine wpAnyH_as (s8_.out _ gHA gHB gHC q2 (hi (HA.out.below hb1)) geHA (hi (HB.out.below hb1)) geHB (hi (HC.out.below hb1)) geHC neHAHB neHAHC neHBHC) (by kernel_rfl) (by kernel_rfl) (by kernel_rfl)
    have s17_ : Hid (∀ (W : World) (gHA : Nat) (gHB : Nat), S0 W → Hid (Var W gHA [.int .u64 0, .int .u64 0]) → w.heap.size + 3 ≤ gHA → Hid (Var W gHB [.int .u64 0, .int .u64 0]) → w.heap.size + 3 ≤ gHB → gHA ≠ gHB → wpAnyH Try.prog .any ops0 Qx S0 6 #[true, true, true, true, true, true, true, true, true, true, false, false, true, true, false, false, false, false] (Act.put (Act.put (Act.put (Act.put (Act.put (Act.put a0 (some 22) v22_) (some 23) v23_) (some 26) v26_) (some 27) v27_) (some 7) (.pointer (some ⟨gHA, 0, none⟩))) (some 8) (.pointer (some ⟨gHB, 0, none⟩))) W) := by
      clear s0_ s1_ s2_ s3_ s4_ s5_ s6_ s7_ s8_ s10_ s11_ s12_ s13_ s14_ s15_
      refine hi ?_
      intro W1 gHA gHB q1 HA geHA HB geHB neHAHB
      cases e1; cases e2; cases e3; cases e4; cases f22_; cases f23_; cases f26_; cases f27_; cases f30_; cases f31_
      try simp only [Act.put, x5, x6, x7]
      refine r2 (i := 10) (j := 14) rfl (fun K hK => ?_) rfl (fun K hK => ?_)
      · go_simp
        go_at_call 56
        (with_reducible refine (way_l _ _ _ _ Rca.out.1 Rca.out.2 _).mono ?_); rintro e w1 ⟨rfl, hb1⟩
        go_wp2_with fail
        refine hK.out _ _ ?_ (fun q2 => ?_)
        · exact ⟨(id q1).1.below hb1, (id q1).2.1.below hb1, (id q1).2.2.1.below hb1, (id q1).2.2.2.below hb1⟩
        refine wpAnyH_as (s9_.out _ gHA gHB q2 (hi (HA.out.below hb1)) geHA (hi (HB.out.below hb1)) geHB neHAHB) (by kernel_rfl) (by kernel_rfl) (by kernel_rfl)
      · go_simp
        refine hK.out _ _ ?_ (fun q2 => ?_)
        · exact ⟨(id q1).1.below (bl_one _ _), (id q1).2.1.below (bl_one _ _), (id q1).2.2.1.below (bl_one _ _), (id q1).2.2.2.below (bl_one _ _)⟩
        refine wpAnyH_as (s16_.out _ gHA gHB _ q2 (hi (HA.out.below (al_of (id q2).2.2.2 (bl_one _ _)))) geHA (hi (HB.out.below (al_of (id q2).2.2.2 (bl_one _ _)))) geHB (hi ((id q1).2.2.2.var2 (.int .u64 0) (.int .u64 0) 67)) (id q1).2.2.2.sz neHAHB (Nat.ne_of_lt HA.out.lt) (Nat.ne_of_lt HB.out.lt)) (by kernel_rfl) (by kernel_rfl) (by kernel_rfl)
    have s18_ : Hid (∀ (W : World) (gHA : Nat) (gHC : Nat), S0 W → Hid (Var W gHA [.int .u64 0, .int .u64 0]) → w.heap.size + 3 ≤ gHA → Hid (Var W gHC [.int .u64 0, .int .u64 0]) → w.heap.size + 3 ≤ gHC → gHA ≠ gHC → wpAnyH Try.prog .any ops0 Qx S0 6 #[true, true, true, true, true, true, true, true, true, true, false, false, true, false, true, false, false, false] (Act.put (Act.put (Act.put (Act.put (Act.put (Act.put a0 (some 22) v22_) (some 23) v23_) (some 26) v26_) (some 27) v27_) (some 7) (.pointer (some ⟨gHA, 0, none⟩))) (some 9) (.pointer (some ⟨gHC, 0, none⟩))) W) := by
      clear s0_ s1_ s2_ s3_ s4_ s5_ s6_ s7_ s8_ s9_ s11_ s12_ s13_ s14_ s15_ s17_
      refine hi ?_
      intro W1 gHA gHC q1 HA geHA HC geHC neHAHC
      cases e1; cases e2; cases e3; cases e4; cases f22_; cases f23_; cases f26_; cases f27_; cases f30_; cases f31_
      try simp only [Act.put, x5, x6, x7]
      refine r2 (i := 10) (j := 13) rfl (fun K hK => ?_) rfl (fun K hK => ?_)
      · go_simp
        go_at_call 56
        (with_reducible refine (way_l _ _ _ _ Rca.out.1 Rca.out.2 _).mono ?_); rintro e w1 ⟨rfl, hb1⟩
        go_wp2_with fail
        refine hK.out _ _ ?_ (fun q2 => ?_)
        · exact ⟨(id q1).1.below hb1, (id q1).2.1.below hb1, (id q1).2.2.1.below hb1, (id q1).2.2.2.below hb1⟩
        refine wpAnyH_as (s10_.out _ gHA gHC q2 (hi (HA.out.below hb1)) geHA (hi (HC.out.below hb1)) geHC neHAHC) (by kernel_rfl) (by kernel_rfl) (by kernel_rfl)
      · go_simp
        refine hK.out _ _ ?_ (fun q2 => ?_)
        · exact ⟨(id q1).1.below (bl_one _ _), (id q1).2.1.below (bl_one _ _), (id q1).2.2.1.below (bl_one _ _), (id q1).2.2.2.below (bl_one _ _)⟩
        refine wpAnyH_as (s16_.out _ gHA _ gHC q2 (hi (HA.out.below (al_of (id q2).2.2.2 (bl_one _ _)))) geHA (hi ((id q1).2.2.2.var2 (.int .u64 0) (.int .u64 0) 67)) (id q1).2.2.2.sz (hi (HC.out.below (al_of (id q2).2.2.2 (bl_one _ _)))) geHC (Nat.ne_of_lt HA.out.lt) neHAHC (Nat.ne_of_gt HC.out.lt)) (by kernel_rfl) (by kernel_rfl) (by kernel_rfl)
    have s19_ : Hid (∀ (W : World) (gHA : Nat), S0 W → Hid (Var W gHA [.int .u64 0, .int .u64 0]) → w.heap.size + 3 ≤ gHA → wpAnyH Try.prog .any ops0 Qx S0 7 #[true, true, true, true, true, true, true, true, true, true, false, false, true, false, false, false, false, false] (Act.put (Act.put (Act.put (Act.put (Act.put a0 (some 22) v22_) (some 23) v23_) (some 26) v26_) (some 27) v27_) (some 7) (.pointer (some ⟨gHA, 0, none⟩))) W) := by
      clear s0_ s1_ s2_ s3_ s4_ s5_ s6_ s7_ s8_ s9_ s10_ s12_ s13_ s14_ s15_ s16_
      refine hi ?_
      intro W1 gHA q1 HA geHA
      cases e1; cases e2; cases e3; cases e4; cases f22_; cases f23_; cases f26_; cases f27_; cases f30_; cases f31_
      try simp only [Act.put, x5, x6, x7]
      refine wpAnyH_ready (rs := [10, 13, 14]) (by kernel_rfl) (by simp) ?_
      refine (AllReadyH.cons rfl (fun K hK => ?_) (AllReadyH.cons rfl (fun K hK => ?_) (AllReadyH.cons rfl (fun K hK => ?_) AllReadyH.nil)))
      · rw [if_pos (by rfl)]
        go_simp
        go_at_call 56
        (with_reducible refine (way_l _ _ _ _ Rca.out.1 Rca.out.2 _).mono ?_); rintro e w1 ⟨rfl, hb1⟩
        go_wp2_with fail
        refine hK.out _ _ ?_ (fun q2 => ?_)
        · exact ⟨(id q1).1.below hb1, (id q1).2.1.below hb1, (id q1).2.2.1.below hb1, (id q1).2.2.2.below hb1⟩
        refine wpAnyH_as (s11_.out _ gHA q2 (hi (HA.out.below hb1)) geHA) (by kernel_rfl) (by kernel_rfl) (by kernel_rfl)
      · rw [if_pos (by rfl)]
        go_simp
        refine hK.out _ _ ?_ (fun q2 => ?_)
        · exact ⟨(id q1).1.below (bl_one _ _), (id q1).2.1.below (bl_one _ _), (id q1).2.2.1.below (bl_one _ _), (id q1).2.2.2.below (bl_one _ _)⟩
        refine wpAnyH_as (s17_.out _ gHA _ q2 (hi (HA.out.below (al_of (id q2).2.2.2 (bl_one _ _)))) geHA (hi ((id q1).2.2.2.var2 (.int .u64 0) (.int .u64 0) 67)) (id q1).2.2.2.sz (Nat.ne_of_lt HA.out.lt)) (by kernel_rfl) (by kernel_rfl) (by kernel_rfl)
      · rw [if_pos (by rfl)]
        go_simp
        refine hK.out _ _ ?_ (fun q2 => ?_)
        · exact ⟨(id q1).1.below (bl_one _ _), (id q1).2.1.below (bl_one _ _), (id q1).2.2.1.below (bl_one _ _), (id q1).2.2.2.below (bl_one _ _)⟩
        refine wpAnyH_as (s18_.out _ gHA _ q2 (hi (HA.out.below (al_of (id q2).2.2.2 (bl_one _ _)))) geHA (hi ((id q1).2.2.2.var2 (.int .u64 0) (.int .u64 0) 67)) (id q1).2.2.2.sz (Nat.ne_of_lt HA.out.lt)) (by kernel_rfl) (by kernel_rfl) (by kernel_rfl)
    have s20_ : Hid (∀ (W : World) (gHB : Nat) (gHC : Nat), S0 W → Hid (Var W gHB [.int .u64 0, .int .u64 0]) → w.heap.size + 3 ≤ gHB → Hid (Var W gHC [.int .u64 0, .int .u64 0]) → w.heap.size + 3 ≤ gHC → gHB ≠ gHC → wpAnyH Try.prog .any ops0 Qx S0 6 #[true, true, true, true, true, true, true, true, true, true, false, false, false, true, true, false, false, false] (Act.put (Act.put (Act.put (Act.put (Act.put (Act.put a0 (some 22) v22_) (some 23) v23_) (some 26) v26_) (some 27) v27_) (some 8) (.pointer (some ⟨gHB, 0, none⟩))) (some 9) (.pointer (some ⟨gHC, 0, none⟩))) W) := by
      clear s0_ s1_ s2_ s3_ s4_ s5_ s6_ s7_ s8_ s9_ s10_ s11_ s13_ s14_ s15_ s17_ s18_ s19_
      refine hi ?_
      intro W1 gHB gHC q1 HB geHB HC geHC neHBHC
      cases e1; cases e2; cases e3; cases e4; cases f22_; cases f23_; cases f26_; cases f27_; cases f30_; cases f31_
      try simp only [Act.put, x5, x6, x7]
      refine r2 (i := 10) (j := 12) rfl (fun K hK => ?_) rfl (fun K hK => ?_)
      · go_simp
        go_at_call 56
        (with_reducible refine (way_l _ _ _ _ Rca.out.1 Rca.out.2 _).mono ?_); rintro e w1 ⟨rfl, hb1⟩
        go_wp2_with fail
        refine hK.out _ _ ?_ (fun q2 => ?_)
        · exact ⟨(id q1).1.below hb1, (id q1).2.1.below hb1, (id q1).2.2.1.below hb1, (id q1).2.2.2.below hb1⟩
        refine wpAnyH_as (s12_.out _ gHB gHC q2 (hi (HB.out.below hb1)) geHB (hi (HC.out.below hb1)) geHC neHBHC) (by kernel_rfl) (by kernel_rfl) (by kernel_rfl)
      · go_simp
        refine hK.out _ _ ?_ (fun q2 => ?_)
        · exact ⟨(id q1).1.below (bl_one _ _), (id q1).2.1.below (bl_one _ _), (id q1).2.2.1.below (bl_one _ _), (id q1).2.2.2.below (bl_one _ _)⟩
        refine wpAnyH_as (s16_.out _ _ gHB gHC q2 (hi ((id q1).2.2.2.var2 (.int .u64 0) (.int .u64 0) 67)) (id q1).2.2.2.sz (hi (HB.out.below (al_of (id q2).2.2.2 (bl_one _ _)))) geHB (hi (HC.out.below (al_of (id q2).2.2.2 (bl_one _ _)))) geHC (Nat.ne_of_gt HB.out.lt) (Nat.ne_of_gt HC.out.lt) neHBHC) (by kernel_rfl) (by kernel_rfl) (by kernel_rfl)
    have s21_ : Hid (∀ (W : World) (gHB : Nat), S0 W → Hid (Var W gHB [.int .u64 0, .int .u64 0]) → w.heap.size + 3 ≤ gHB → wpAnyH Try.prog .any ops0 Qx S0 7 #[true, true, true, true, true, true, true, true, true, true, false, false, false, true, false, false, false, false] (Act.put (Act.put (Act.put (Act.put (Act.put a0 (some 22) v22_) (some 23) v23_) (some 26) v26_) (some 27) v27_) (some 8) (.pointer (some ⟨gHB, 0, none⟩))) W) := by
      clear s0_ s1_ s2_ s3_ s4_ s5_ s6_ s7_ s8_ s9_ s10_ s11_ s12_ s14_ s15_ s16_ s18_ s19_
      refine hi ?_
      intro W1 gHB q1 HB geHB
      cases e1; cases e2; cases e3; cases e4; cases f22_; cases f23_; cases f26_; cases f27_; cases f30_; cases f31_
      try simp only [Act.put, x5, x6, x7]
      refine wpAnyH_ready (rs := [10, 12, 14]) (by kernel_rfl) (by simp) ?_
      refine (AllReadyH.cons rfl (fun K hK => ?_) (AllReadyH.cons rfl (fun K hK => ?_) (AllReadyH.cons rfl (fun K hK => ?_) AllReadyH.nil)))
      · rw [if_pos (by rfl)]
        go_simp
        go_at_call 56
        (with_reducible refine (way_l _ _ _ _ Rca.out.1 Rca.out.2 _).mono ?_); rintro e w1 ⟨rfl, hb1⟩
        go_wp2_with fail
        refine hK.out _ _ ?_ (fun q2 => ?_)
        · exact ⟨(id q1).1.below hb1, (id q1).2.1.below hb1, (id q1).2.2.1.below hb1, (id q1).2.2.2.below hb1⟩
        refine wpAnyH_as (s13_.out _ gHB q2 (hi (HB.out.below hb1)) geHB) (by kernel_rfl) (by kernel_rfl) (by kernel_rfl)
      · rw [if_pos (by rfl)]
        go_simp
        refine hK.out _ _ ?_ (fun q2 => ?_)
        · exact ⟨(id q1).1.below (bl_one _ _), (id q1).2.1.below (bl_one _ _), (id q1).2.2.1.below (bl_one _ _), (id q1).2.2.2.below (bl_one _ _)⟩
        refine wpAnyH_as (s17_.out _ _ gHB q2 (hi ((id q1).2.2.2.var2 (.int .u64 0) (.int .u64 0) 67)) (id q1).2.2.2.sz (hi (HB.out.below (al_of (id q2).2.2.2 (bl_one _ _)))) geHB (Nat.ne_of_gt HB.out.lt)) (by kernel_rfl) (by kernel_rfl) (by kernel_rfl)
      · rw [if_pos (by rfl)]
        go_simp
        refine hK.out _ _ ?_ (fun q2 => ?_)
        · exact ⟨(id q1).1.below (bl_one _ _), (id q1).2.1.below (bl_one _ _), (id q1).2.2.1.below (bl_one _ _), (id q1).2.2.2.below (bl_one _ _)⟩
        refine wpAnyH_as (s20_.out _ gHB _ q2 (hi (HB.out.below (al_of (id q2).2.2.2 (bl_one _ _)))) geHB (hi ((id q1).2.2.2.var2 (.int .u64 0) (.int .u64 0) 67)) (id q1).2.2.2.sz (Nat.ne_of_lt HB.out.lt)) (by kernel_rfl) (by kernel_rfl) (by kernel_rfl)
    have s22_ : Hid (∀ (W : World) (gHC : Nat), S0 W → Hid (Var W gHC [.int .u64 0, .int .u64 0]) → w.heap.size + 3 ≤ gHC → wpAnyH Try.prog .any ops0 Qx S0 7 #[true, true, true, true, true, true, true, true, true, true, false, false, false, false, true, false, false, false] (Act.put (Act.put (Act.put (Act.put (Act.put a0 (some 22) v22_) (some 23) v23_) (some 26) v26_) (some 27) v27_) (some 9) (.pointer (some ⟨gHC, 0, none⟩))) W) := by
      clear s0_ s1_ s2_ s3_ s4_ s5_ s6_ s7_ s8_ s9_ s10_ s11_ s12_ s13_ s15_ s16_ s17_ s19_ s21_
      refine hi ?_
      intro W1 gHC q1 HC geHC
      cases e1; cases e2; cases e3; cases e4; cases f22_; cases f23_; cases f26_; cases f27_; cases f30_; cases f31_
      try simp only [Act.put, x5, x6, x7]
      refine wpAnyH_ready (rs := [10, 12, 13]) (by kernel_rfl) (by simp) ?_
      refine (AllReadyH.cons rfl (fun K hK => ?_) (AllReadyH.cons rfl (fun K hK => ?_) (AllReadyH.cons rfl (fun K hK => ?_) AllReadyH.nil)))
      · rw [if_pos (by rfl)]
        go_simp
        go_at_call 56
        (with_reducible refine (way_l _ _ _ _ Rca.out.1 Rca.out.2 _).mono ?_); rintro e w1 ⟨rfl, hb1⟩
        go_wp2_with fail
        refine hK.out _ _ ?_ (fun q2 => ?_)
        · exact ⟨(id q1).1.below hb1, (id q1).2.1.below hb1, (id q1).2.2.1.below hb1, (id q1).2.2.2.below hb1⟩
        refine wpAnyH_as (s14_.out _ gHC q2 (hi (HC.out.below hb1)) geHC) (by kernel_rfl) (by kernel_rfl) (by kernel_rfl)
      · rw [if_pos (by rfl)]
        go_simp
        refine hK.out _ _ ?_ (fun q2 => ?_)
        · exact ⟨(id q1).1.below (bl_one _ _), (id q1).2.1.below (bl_one _ _), (id q1).2.2.1.below (bl_one _ _), (id q1).2.2.2.below (bl_one _ _)⟩
        refine wpAnyH_as (s18_.out _ _ gHC q2 (hi ((id q1).2.2.2.var2 (.int .u64 0) (.int .u64 0) 67)) (id q1).2.2.2.sz (hi (HC.out.below (al_of (id q2).2.2.2 (bl_one _ _)))) geHC (Nat.ne_of_gt HC.out.lt)) (by kernel_rfl) (by kernel_rfl) (by kernel_rfl)
      · rw [if_pos (by rfl)]
        go_simp
        refine hK.out _ _ ?_ (fun q2 => ?_)
        · exact ⟨(id q1).1.below (bl_one _ _), (id q1).2.1.below (bl_one _ _), (id q1).2.2.1.below (bl_one _ _), (id q1).2.2.2.below (bl_one _ _)⟩
        refine wpAnyH_as (s20_.out _ _ gHC q2 (hi ((id q1).2.2.2.var2 (.int .u64 0) (.int .u64 0) 67)) (id q1).2.2.2.sz (hi (HC.out.below (al_of (id q2).2.2.2 (bl_one _ _)))) geHC (Nat.ne_of_gt HC.out.lt)) (by kernel_rfl) (by kernel_rfl) (by kernel_rfl)
    have s23_ : Hid (∀ (W : World), S0 W → wpAnyH Try.prog .any ops0 Qx S0 8 #[true, true, true, true, true, true, true, true, true, true, false, false, false, false, false, false, false, false] (Act.put (Act.put (Act.put (Act.put a0 (some 22) v22_) (some 23) v23_) (some 26) v26_) (some 27) v27_) W) := by
      clear s0_ s1_ s2_ s3_ s4_ s5_ s6_ s7_ s8_ s9_ s10_ s11_ s12_ s13_ s14_ s16_ s17_ s18_ s20_
      refine hi ?_
      intro W1  q1 
      cases e1; cases e2; cases e3; cases e4; cases f22_; cases f23_; cases f26_; cases f27_; cases f30_; cases f31_
      try simp only [Act.put, x5, x6, x7]
      refine wpAnyH_ready (rs := [10, 12, 13, 14]) (by kernel_rfl) (by simp) ?_
      refine (AllReadyH.cons rfl (fun K hK => ?_) (AllReadyH.cons rfl (fun K hK => ?_) (AllReadyH.cons rfl (fun K hK => ?_) (AllReadyH.cons rfl (fun K hK => ?_) AllReadyH.nil))))
      · rw [if_pos (by rfl)]
        go_simp
        go_at_call 56
        (with_reducible refine (way_l _ _ _ _ Rca.out.1 Rca.out.2 _).mono ?_); rintro e w1 ⟨rfl, hb1⟩
        go_wp2_with fail
        refine hK.out _ _ ?_ (fun q2 => ?_)
        · exact ⟨(id q1).1.below hb1, (id q1).2.1.below hb1, (id q1).2.2.1.below hb1, (id q1).2.2.2.below hb1⟩
        refine wpAnyH_as (s15_.out _ q2) (by kernel_rfl) (by kernel_rfl) (by kernel_rfl)
      · rw [if_pos (by rfl)]
        go_simp
        refine hK.out _ _ ?_ (fun q2 => ?_)
        · exact ⟨(id q1).1.below (bl_one _ _), (id q1).2.1.below (bl_one _ _), (id q1).2.2.1.below (bl_one _ _), (id q1).2.2.2.below (bl_one _ _)⟩
        refine wpAnyH_as (s19_.out _ _ q2 (hi ((id q1).2.2.2.var2 (.int .u64 0) (.int .u64 0) 67)) (id q1).2.2.2.sz) (by kernel_rfl) (by kernel_rfl) (by kernel_rfl)
      · rw [if_pos (by rfl)]
        go_simp
        refine hK.out _ _ ?_ (fun q2 => ?_)
        · exact ⟨(id q1).1.below (bl_one _ _), (id q1).2.1.below (bl_one _ _), (id q1).2.2.1.below (bl_one _ _), (id q1).2.2.2.below (bl_one _ _)⟩
        refine wpAnyH_as (s21_.out _ _ q2 (hi ((id q1).2.2.2.var2 (.int .u64 0) (.int .u64 0) 67)) (id q1).2.2.2.sz) (by kernel_rfl) (by kernel_rfl) (by kernel_rfl)
      · rw [if_pos (by rfl)]
        go_simp
        refine hK.out _ _ ?_ (fun q2 => ?_)
        · exact ⟨(id q1).1.below (bl_one _ _), (id q1).2.1.below (bl_one _ _), (id q1).2.2.1.below (bl_one _ _), (id q1).2.2.2.below (bl_one _ _)⟩
        refine wpAnyH_as (s22_.out _ _ q2 (hi ((id q1).2.2.2.var2 (.int .u64 0) (.int .u64 0) 67)) (id q1).2.2.2.sz) (by kernel_rfl) (by kernel_rfl) (by kernel_rfl)
    have s24_ : Hid (∀ (W : World) (gHA : Nat) (gHB : Nat) (gHC : Nat), S0 W → Hid (Var W gHA [.int .u64 0, .int .u64 0]) → w.heap.size + 3 ≤ gHA → Hid (Var W gHB [.int .u64 0, .int .u64 0]) → w.heap.size + 3 ≤ gHB → Hid (Var W gHC [.int .u64 0, .int .u64 0]) → w.heap.size + 3 ≤ gHC → gHA ≠ gHB → gHA ≠ gHC → gHB ≠ gHC → wpAnyH Try.prog .any ops0 Qx S0 6 #[true, true, true, true, true, true, true, false, true, true, false, false, true, true, true, false, false, false] (Act.put (Act.put (Act.put (Act.put (Act.put (Act.put a0 (some 22) v22_) (some 23) v23_) (some 26) v26_) (some 7) (.pointer (some ⟨gHA, 0, none⟩))) (some 8) (.pointer (some ⟨gHB, 0, none⟩))) (some 9) (.pointer (some ⟨gHC, 0, none⟩))) W) := by
      clear s0_ s1_ s2_ s3_ s4_ s5_ s6_ s7_ s8_ s9_ s10_ s11_ s12_ s13_ s14_ s15_ s17_ s18_ s19_ s20_ s21_ s22_ s23_
      refine hi ?_
      intro W1 gHA gHB gHC q1 HA geHA HB geHB HC geHC neHAHB neHAHC neHBHC
      cases e1; cases e2; cases e3; cases e4; cases f22_; cases f23_; cases f26_; cases f27_; cases f30_; cases f31_
      try simp only [Act.put, x5, x6, x7]
      refine r1 (i := 7) rfl (fun K hK => ?_)
      · go_simp
        go_at_call 64
        (with_reducible refine (square_l _ _ Rbc.out.1 Rbc.out.2 _).mono ?_); rintro e w1 ⟨rfl, hb1⟩
        go_wp2_with fail
        refine hK.out _ _ ?_ (fun q2 => ?_)
        · exact ⟨(id q1).1.below hb1, (id q1).2.1.below hb1, (id q1).2.2.1.below hb1, (id q1).2.2.2.below hb1⟩
        refine wpAnyH_as (s16_.out _ gHA gHB gHC q2 (hi (HA.out.below hb1)) geHA (hi (HB.out.below hb1)) geHB (hi (HC.out.below hb1)) geHC neHAHB neHAHC neHBHC) (by kernel_rfl) (by kernel_rfl) (by kernel_rfl)
    have s25_ : Hid (∀ (W : World) (gHA : Nat) (gHB : Nat), S0 W → Hid (Var W gHA [.int .u64 0, .int .u64 0]) → w.heap.size + 3 ≤ gHA → Hid (Var W gHB [.int .u64 0, .int .u64 0]) → w.heap.size + 3 ≤ gHB → gHA ≠ gHB → wpAnyH Try.prog .any ops0 Qx S0 7 #[true, true, true, true, true, true, true, false, true, true, false, false, true, true, false, false, false, false] (Act.put (Act.put (Act.put (Act.put (Act.put a0 (some 22) v22_) (some 23) v23_) (some 26) v26_) (some 7) (.pointer (some ⟨gHA, 0, none⟩))) (some 8) (.pointer (some ⟨gHB, 0, none⟩))) W) := by
      clear s0_ s1_ s2_ s3_ s4_ s5_ s6_ s7_ s8_ s9_ s10_ s11_ s12_ s13_ s14_ s15_ s16_ s18_ s19_ s20_ s21_ s22_ s23_
      refine hi ?_
      intro W1 gHA gHB q1 HA geHA HB geHB neHAHB
      cases e1; cases e2; cases e3; cases e4; cases f22_; cases f23_; cases f26_; cases f27_; cases f30_; cases f31_
      try simp only [Act.put, x5, x6, x7]
      refine r2 (i := 7) (j := 14) rfl (fun K hK => ?_) rfl (fun K hK => ?_)
      · go_simp
        go_at_call 64
        (with_reducible refine (square_l _ _ Rbc.out.1 Rbc.out.2 _).mono ?_); rintro e w1 ⟨rfl, hb1⟩
        go_wp2_with fail
        refine hK.out _ _ ?_ (fun q2 => ?_)
        · exact ⟨(id q1).1.below hb1, (id q1).2.1.below hb1, (id q1).2.2.1.below hb1, (id q1).2.2.2.below hb1⟩
        refine wpAnyH_as (s17_.out _ gHA gHB q2 (hi (HA.out.below hb1)) geHA (hi (HB.out.below hb1)) geHB neHAHB) (by kernel_rfl) (by kernel_rfl) (by kernel_rfl)
      · go_simp
        refine hK.out _ _ ?_ (fun q2 => ?_)
        · exact ⟨(id q1).1.below (bl_one _ _), (id q1).2.1.below (bl_one _ _), (id q1).2.2.1.below (bl_one _ _), (id q1).2.2.2.below (bl_one _ _)⟩
        refine wpAnyH_as (s24_.out _ gHA gHB _ q2 (hi (HA.out.below (al_of (id q2).2.2.2 (bl_one _ _)))) geHA (hi (HB.out.below (al_of (id q2).2.2.2 (bl_one _ _)))) geHB (hi ((id q1).2.2.2.var2 (.int .u64 0) (.int .u64 0) 67)) (id q1).2.2.2.sz neHAHB (Nat.ne_of_lt HA.out.lt) (Nat.ne_of_lt HB.out.lt)) (by kernel_rfl) (by kernel_rfl) (by kernel_rfl)
    have s26_ : Hid (∀ (W : World) (gHA : Nat) (gHC : Nat), S0 W → Hid (Var W gHA [.int .u64 0, .int .u64 0]) → w.heap.size + 3 ≤ gHA → Hid (Var W gHC [.int .u64 0, .int .u64 0]) → w.heap.size + 3 ≤ gHC → gHA ≠ gHC → wpAnyH Try.prog .any ops0 Qx S0 7 #[true, true, true, true, true, true, true, false, true, true, false, false, true, false, true, false, false, false] (Act.put (Act.put (Act.put (Act.put (Act.put a0 (some 22) v22_) (some 23) v23_) (some 26) v26_) (some 7) (.pointer (some ⟨gHA, 0, none⟩))) (some 9) (.pointer (some ⟨gHC, 0, none⟩))) W) := by
      clear s0_ s1_ s2_ s3_ s4_ s5_ s6_ s7_ s8_ s9_ s10_ s11_ s12_ s13_ s14_ s15_ s16_ s17_ s19_ s20_ s21_ s22_ s23_ s25_
      refine hi ?_
      intro W1 gHA gHC q1 HA geHA HC geHC neHAHC
      cases e1; cases e2; cases e3; cases e4; cases f22_; cases f23_; cases f26_; cases f27_; cases f30_; cases f31_
      try simp only [Act.put, x5, x6, x7]
      refine r2 (i := 7) (j := 13) rfl (fun K hK => ?_) rfl (fun K hK => ?_)
      · go_simp
        go_at_call 64
        (with_reducible refine (square_l _ _ Rbc.out.1 Rbc.out.2 _).mono ?_); rintro e w1 ⟨rfl, hb1⟩
        go_wp2_with fail
        refine hK.out _ _ ?_ (fun q2 => ?_)
        · exact ⟨(id q1).1.below hb1, (id q1).2.1.below hb1, (id q1).2.2.1.below hb1, (id q1).2.2.2.below hb1⟩
        refine wpAnyH_as (s18_.out _ gHA gHC q2 (hi (HA.out.below hb1)) geHA (hi (HC.out.below hb1)) geHC neHAHC) (by kernel_rfl) (by kernel_rfl) (by kernel_rfl)
      · go_simp
        refine hK.out _ _ ?_ (fun q2 => ?_)
        · exact ⟨(id q1).1.below (bl_one _ _), (id q1).2.1.below (bl_one _ _), (id q1).2.2.1.below (bl_one _ _), (id q1).2.2.2.below (bl_one _ _)⟩
        refine wpAnyH_as (s24_.out _ gHA _ gHC q2 (hi (HA.out.below (al_of (id q2).2.2.2 (bl_one _ _)))) geHA (hi ((id q1).2.2.2.var2 (.int .u64 0) (.int .u64 0) 67)) (id q1).2.2.2.sz (hi (HC.out.below (al_of (id q2).2.2.2 (bl_one _ _)))) geHC (Nat.ne_of_lt HA.out.lt) neHAHC (Nat.ne_of_gt HC.out.lt)) (by kernel_rfl) (by kernel_rfl) (by kernel_rfl)
    have s27_ : Hid (∀ (W : World) (gHA : Nat), S0 W → Hid (Var W gHA [.int .u64 0, .int .u64 0]) → w.heap.size + 3 ≤ gHA → wpAnyH Try.prog .any ops0 Qx S0 8 #[true, true, true, true, true, true, true, false, true, true, false, false, true, false, false, false, false, false] (Act.put (Act.put (Act.put (Act.put a0 (some 22) v22_) (some 23) v23_) (some 26) v26_) (some 7) (.pointer (some ⟨gHA, 0, none⟩))) W) := by
      clear s0_ s1_ s2_ s3_ s4_ s5_ s6_ s7_ s8_ s9_ s10_ s11_ s12_ s13_ s14_ s15_ s16_ s17_ s18_ s20_ s21_ s22_ s23_ s24_
      refine hi ?_
      intro W1 gHA q1 HA geHA
      cases e1; cases e2; cases e3; cases e4; cases f22_; cases f23_; cases f26_; cases f27_; cases f30_; cases f31_
      try simp only [Act.put, x5, x6, x7]
      refine wpAnyH_ready (rs := [7, 13, 14]) (by kernel_rfl) (by simp) ?_
      refine (AllReadyH.cons rfl (fun K hK => ?_) (AllReadyH.cons rfl (fun K hK => ?_) (AllReadyH.cons rfl (fun K hK => ?_) AllReadyH.nil)))
      · rw [if_pos (by rfl)]
        go_simp
        go_at_call 64
        (with_reducible refine (square_l _ _ Rbc.out.1 Rbc.out.2 _).mono ?_); rintro e w1 ⟨rfl, hb1⟩
        go_wp2_with fail
        refine hK.out _ _ ?_ (fun q2 => ?_)
        · exact ⟨(id q1).1.below hb1, (id q1).2.1.below hb1, (id q1).2.2.1.below hb1, (id q1).2.2.2.below hb1⟩
        refine wpAnyH_as (s19_.out _ gHA q2 (hi (HA.out.below hb1)) geHA) (by kernel_rfl) (by kernel_rfl) (by kernel_rfl)
      · rw [if_pos (by rfl)]
        go_simp
        refine hK.out _ _ ?_ (fun q2 => ?_)
        · exact ⟨(id q1).1.below (bl_one _ _), (id q1).2.1.below (bl_one _ _), (id q1).2.2.1.below (bl_one _ _), (id q1).2.2.2.below (bl_one _ _)⟩
        refine wpAnyH_as (s25_.out _ gHA _ q2 (hi (HA.out.below (al_of (id q2).2.2.2 (bl_one _ _)))) geHA (hi ((id q1).2.2.2.var2 (.int .u64 0) (.int .u64 0) 67)) (id q1).2.2.2.sz (Nat.ne_of_lt HA.out.lt)) (by kernel_rfl) (by kernel_rfl) (by kernel_rfl)
      · rw [if_pos (by rfl)]
        go_simp
        refine hK.out _ _ ?_ (fun q2 => ?_)
        · exact ⟨(id q1).1.below (bl_one _ _), (id q1).2.1.below (bl_one _ _), (id q1).2.2.1.below (bl_one _ _), (id q1).2.2.2.below (bl_one _ _)⟩
        refine wpAnyH_as (s26_.out _ gHA _ q2 (hi (HA.out.below (al_of (id q2).2.2.2 (bl_one _ _)))) geHA (hi ((id q1).2.2.2.var2 (.int .u64 0) (.int .u64 0) 67)) (id q1).2.2.2.sz (Nat.ne_of_lt HA.out.lt)) (by kernel_rfl) (by kernel_rfl) (by kernel_rfl)
    have s28_ : Hid (∀ (W : World) (gHB : Nat) (gHC : Nat), S0 W → Hid (Var W gHB [.int .u64 0, .int .u64 0]) → w.heap.size + 3 ≤ gHB → Hid (Var W gHC [.int .u64 0, .int .u64 0]) → w.heap.size + 3 ≤ gHC → gHB ≠ gHC → wpAnyH Try.prog .any ops0 Qx S0 7 #[true, true, true, true, true, true, true, false, true, true, false, false, false, true, true, false, false, false] (Act.put (Act.put (Act.put (Act.put (Act.put a0 (some 22) v22_) (some 23) v23_) (some 26) v26_) (some 8) (.pointer (some ⟨gHB, 0, none⟩))) (some 9) (.pointer (some ⟨gHC, 0, none⟩))) W) := by
      clear s0_ s1_ s2_ s3_ s4_ s5_ s6_ s7_ s8_ s9_ s10_ s11_ s12_ s13_ s14_ s15_ s16_ s17_ s18_ s19_ s21_ s22_ s23_ s25_ s26_ s27_
      refine hi ?_
      intro W1 gHB gHC q1 HB geHB HC geHC neHBHC
      cases e1; cases e2; cases e3; cases e4; cases f22_; cases f23_; cases f26_; cases f27_; cases f30_; cases f31_
      try simp only [Act.put, x5, x6, x7]
      refine r2 (i := 7) (j := 12) rfl (fun K hK => ?_) rfl (fun K hK => ?_)
      · go_simp
        go_at_call 64
        (with_reducible refine (square_l _ _ Rbc.out.1 Rbc.out.2 _).mono ?_); rintro e w1 ⟨rfl, hb1⟩
        go_wp2_with fail
        refine hK.out _ _ ?_ (fun q2 => ?_)
        · exact ⟨(id q1).1.below hb1, (id q1).2.1.below hb1, (id q1).2.2.1.below hb1, (id q1).2.2.2.below hb1⟩
        refine wpAnyH_as (s20_.out _ gHB gHC q2 (hi (HB.out.below hb1)) geHB (hi (HC.out.below hb1)) geHC neHBHC) (by kernel_rfl) (by kernel_rfl) (by kernel_rfl)
      · go_simp
        refine hK.out _ _ ?_ (fun q2 => ?_)
        · exact ⟨(id q1).1.below (bl_one _ _), (id q1).2.1.below (bl_one _ _), (id q1).2.2.1.below (bl_one _ _), (id q1).2.2.2.below (bl_one _ _)⟩
        refine wpAnyH_as (s24_.out _ _ gHB gHC q2 (hi ((id q1).2.2.2.var2 (.int .u64 0) (.int .u64 0) 67)) (id q1).2.2.2.sz (hi (HB.out.below (al_of (id q2).2.2.2 (bl_one _ _)))) geHB (hi (HC.out.below (al_of (id q2).2.2.2 (bl_one _ _)))) geHC (Nat.ne_of_gt HB.out.lt) (Nat.ne_of_gt HC.out.lt) neHBHC) (by kernel_rfl) (by kernel_rfl) (by kernel_rfl)
    have s29_ : Hid (∀ (W : World) (gHB : Nat), S0 W → Hid (Var W gHB [.int .u64 0, .int .u64 0]) → w.heap.size + 3 ≤ gHB → wpAnyH Try.prog .any ops0 Qx S0 8 #[true, true, true, true, true, true, true, false, true, true, false, false, false, true, false, false, false, false] (Act.put (Act.put (Act.put (Act.put a0 (some 22) v22_) (some 23) v23_) (some 26) v26_) (some 8) (.pointer (some ⟨gHB, 0, none⟩))) W) := by
      clear s0_ s1_ s2_ s3_ s4_ s5_ s6_ s7_ s8_ s9_ s10_ s11_ s12_ s13_ s14_ s15_ s16_ s17_ s18_ s19_ s20_ s22_ s23_ s24_ s26_ s27_
      refine hi ?_
      intro W1 gHB q1 HB geHB
      cases e1; cases e2; cases e3; cases e4; cases f22_; cases f23_; cases f26_; cases f27_; cases f30_; cases f31_
      try simp only [Act.put, x5, x6, x7]
      refine wpAnyH_ready (rs := [7, 12, 14]) (by kernel_rfl) (by simp) ?_
      refine (AllReadyH.cons rfl (fun K hK => ?_) (AllReadyH.cons rfl (fun K hK => ?_) (AllReadyH.cons rfl (fun K hK => ?_) AllReadyH.nil)))
      · rw [if_pos (by rfl)]
        go_simp
        go_at_call 64
        (with_reducible refine (square_l _ _ Rbc.out.1 Rbc.out.2 _).mono ?_); rintro e w1 ⟨rfl, hb1⟩
        go_wp2_with fail
        refine hK.out _ _ ?_ (fun q2 => ?_)
        · exact ⟨(id q1).1.below hb1, (id q1).2.1.below hb1, (id q1).2.2.1.below hb1, (id q1).2.2.2.below hb1⟩
        refine wpAnyH_as (s21_.out _ gHB q2 (hi (HB.out.below hb1)) geHB) (by kernel_rfl) (by kernel_rfl) (by kernel_rfl)
      · rw [if_pos (by rfl)]
        go_simp
        refine hK.out _ _ ?_ (fun q2 => ?_)
        · exact ⟨(id q1).1.below (bl_one _ _), (id q1).2.1.below (bl_one _ _), (id q1).2.2.1.below (bl_one _ _), (id q1).2.2.2.below (bl_one _ _)⟩
        refine wpAnyH_as (s25_.out _ _ gHB q2 (hi ((id q1).2.2.2.var2 (.int .u64 0) (.int .u64 0) 67)) (id q1).2.2.2.sz (hi (HB.out.below (al_of (id q2).2.2.2 (bl_one _ _)))) geHB (Nat.ne_of_gt HB.out.lt)) (by kernel_rfl) (by kernel_rfl) (by kernel_rfl)
      · rw [if_pos (by rfl)]
        go_simp
        refine hK.out _ _ ?_ (fun q2 => ?_)
        · exact ⟨(id q1).1.below (bl_one _ _), (id q1).2.1.below (bl_one _ _), (id q1).2.2.1.below (bl_one _ _), (id q1).2.2.2.below (bl_one _ _)⟩
        refine wpAnyH_as (s28_.out _ gHB _ q2 (hi (HB.out.below (al_of (id q2).2.2.2 (bl_one _ _)))) geHB (hi ((id q1).2.2.2.var2 (.int .u64 0) (.int .u64 0) 67)) (id q1).2.2.2.sz (Nat.ne_of_lt HB.out.lt)) (by kernel_rfl) (by kernel_rfl) (by kernel_rfl)
    have s30_ : Hid (∀ (W : World) (gHC : Nat), S0 W → Hid (Var W gHC [.int .u64 0, .int .u64 0]) → w.heap.size + 3 ≤ gHC → wpAnyH Try.prog .any ops0 Qx S0 8 #[true, true, true, true, true, true, true, false, true, true, false, false, false, false, true, false, false, false] (Act.put (Act.put (Act.put (Act.put a0 (some 22) v22_) (some 23) v23_) (some 26) v26_) (some 9) (.pointer (some ⟨gHC, 0, none⟩))) W) := by
      clear s0_ s1_ s2_ s3_ s4_ s5_ s6_ s7_ s8_ s9_ s10_ s11_ s12_ s13_ s14_ s15_ s16_ s17_ s18_ s19_ s20_ s21_ s23_ s24_ s25_ s27_ s29_
      refine hi ?_
      intro W1 gHC q1 HC geHC
      cases e1; cases e2; cases e3; cases e4; cases f22_; cases f23_; cases f26_; cases f27_; cases f30_; cases f31_
      try simp only [Act.put, x5, x6, x7]
      refine wpAnyH_ready (rs := [7, 12, 13]) (by kernel_rfl) (by simp) ?_
      refine (AllReadyH.cons rfl (fun K hK => ?_) (AllReadyH.cons rfl (fun K hK => ?_) (AllReadyH.cons rfl (fun K hK => ?_) AllReadyH.nil)))
      · rw [if_pos (by rfl)]
        go_simp
        go_at_call 64
        (with_reducible refine (square_l _ _ Rbc.out.1 Rbc.out.2 _).mono ?_); rintro e w1 ⟨rfl, hb1⟩
        go_wp2_with fail
        refine hK.out _ _ ?_ (fun q2 => ?_)
        · exact ⟨(id q1).1.below hb1, (id q1).2.1.below hb1, (id q1).2.2.1.below hb1, (id q1).2.2.2.below hb1⟩
        refine wpAnyH_as (s22_.out _ gHC q2 (hi (HC.out.below hb1)) geHC) (by kernel_rfl) (by kernel_rfl) (by kernel_rfl)
      · rw [if_pos (by rfl)]
        go_simp
        refine hK.out _ _ ?_ (fun q2 => ?_)
        · exact ⟨(id q1).1.below (bl_one _ _), (id q1).2.1.below (bl_one _ _), (id q1).2.2.1.below (bl_one _ _), (id q1).2.2.2.below (bl_one _ _)⟩
        refine wpAnyH_as (s26_.out _ _ gHC q2 (hi ((id q1).2.2.2.var2 (.int .u64 0) (.int .u64 0) 67)) (id q1).2.2.2.sz (hi (HC.out.below (al_of (id q2).2.2.2 (bl_one _ _)))) geHC (Nat.ne_of_gt HC.out.lt)) (by kernel_rfl) (by kernel_rfl) (by kernel_rfl)
      · rw [if_pos (by rfl)]
        go_simp
        refine hK.out _ _ ?_ (fun q2 => ?_)
        · exact ⟨(id q1).1.below (bl_one _ _), (id q1).2.1.below (bl_one _ _), (id q1).2.2.1.below (bl_one _ _), (id q1).2.2.2.below (bl_one _ _)⟩
        refine wpAnyH_as (s28_.out _ _ gHC q2 (hi ((id q1).2.2.2.var2 (.int .u64 0) (.int .u64 0) 67)) (id q1).2.2.2.sz (hi (HC.out.below (al_of (id q2).2.2.2 (bl_one _ _)))) geHC (Nat.ne_of_gt HC.out.lt)) (by kernel_rfl) (by kernel_rfl) (by kernel_rfl)
    have s31_ : Hid (∀ (W : World), S0 W → wpAnyH Try.prog .any ops0 Qx S0 9 #[true, true, true, true, true, true, true, false, true, true, false, false, false, false, false, false, false, false] (Act.put (Act.put (Act.put a0 (some 22) v22_) (some 23) v23_) (some 26) v26_) W) := by
      clear s0_ s1_ s2_ s3_ s4_ s5_ s6_ s7_ s8_ s9_ s10_ s11_ s12_ s13_ s14_ s15_ s16_ s17_ s18_ s19_ s20_ s21_ s22_ s24_ s25_ s26_ s28_
      refine hi ?_
      intro W1  q1 
      cases e1; cases e2; cases e3; cases e4; cases f22_; cases f23_; cases f26_; cases f27_; cases f30_; cases f31_
      try simp only [Act.put, x5, x6, x7]
      refine wpAnyH_ready (rs := [7, 12, 13, 14]) (by kernel_rfl) (by simp) ?_
      refine (AllReadyH.cons rfl (fun K hK => ?_) (AllReadyH.cons rfl (fun K hK => ?_) (AllReadyH.cons rfl (fun K hK => ?_) (AllReadyH.cons rfl (fun K hK => ?_) AllReadyH.nil))))
      · rw [if_pos (by rfl)]
        go_simp
        go_at_call 64
        (with_reducible refine (square_l _ _ Rbc.out.1 Rbc.out.2 _).mono ?_); rintro e w1 ⟨rfl, hb1⟩
        go_wp2_with fail
        refine hK.out _ _ ?_ (fun q2 => ?_)
        · exact ⟨(id q1).1.below hb1, (id q1).2.1.below hb1, (id q1).2.2.1.below hb1, (id q1).2.2.2.below hb1⟩
        refine wpAnyH_as (s23_.out _ q2) (by kernel_rfl) (by kernel_rfl) (by kernel_rfl)
      · rw [if_pos (by rfl)]
        go_simp
        refine hK.out _ _ ?_ (fun q2 => ?_)
        · exact ⟨(id q1).1.below (bl_one _ _), (id q1).2.1.below (bl_one _ _), (id q1).2.2.1.below (bl_one _ _), (id q1).2.2.2.below (bl_one _ _)⟩
        refine wpAnyH_as (s27_.out _ _ q2 (hi ((id q1).2.2.2.var2 (.int .u64 0) (.int .u64 0) 67)) (id q1).2.2.2.sz) (by kernel_rfl) (by kernel_rfl) (by kernel_rfl)
      · rw [if_pos (by rfl)]
        go_simp
        refine hK.out _ _ ?_ (fun q2 => ?_)
        · exact ⟨(id q1).1.below (bl_one _ _), (id q1).2.1.below (bl_one _ _), (id q1).2.2.1.below (bl_one _ _), (id q1).2.2.2.below (bl_one _ _)⟩
        refine wpAnyH_as (s29_.out _ _ q2 (hi ((id q1).2.2.2.var2 (.int .u64 0) (.int .u64 0) 67)) (id q1).2.2.2.sz) (by kernel_rfl) (by kernel_rfl) (by kernel_rfl)
      · rw [if_pos (by rfl)]
        go_simp
        refine hK.out _ _ ?_ (fun q2 => ?_)
        · exact ⟨(id q1).1.below (bl_one _ _), (id q1).2.1.below (bl_one _ _), (id q1).2.2.1.below (bl_one _ _), (id q1).2.2.2.below (bl_one _ _)⟩
        refine wpAnyH_as (s30_.out _ _ q2 (hi ((id q1).2.2.2.var2 (.int .u64 0) (.int .u64 0) 67)) (id q1).2.2.2.sz) (by kernel_rfl) (by kernel_rfl) (by kernel_rfl)
    have s32_ : Hid (∀ (W : World) (gHA : Nat) (gHB : Nat) (gHC : Nat), S0 W → Hid (Var W gHA [.int .u64 0, .int .u64 0]) → w.heap.size + 3 ≤ gHA → Hid (Var W gHB [.int .u64 0, .int .u64 0]) → w.heap.size + 3 ≤ gHB → Hid (Var W gHC [.int .u64 0, .int .u64 0]) → w.heap.size + 3 ≤ gHC → gHA ≠ gHB → gHA ≠ gHC → gHB ≠ gHC → wpAnyH Try.prog .any ops0 Qx S0 7 #[true, true, true, true, true, true, false, false, true, true, false, false, true, true, true, false, false, false] (Act.put (Act.put (Act.put (Act.put (Act.put a0 (some 22) v22_) (some 23) v23_) (some 7) (.pointer (some ⟨gHA, 0, none⟩))) (some 8) (.pointer (some ⟨gHB, 0, none⟩))) (some 9) (.pointer (some ⟨gHC, 0, none⟩))) W) := by
      clear s0_ s1_ s2_ s3_ s4_ s5_ s6_ s7_ s8_ s9_ s10_ s11_ s12_ s13_ s14_ s15_ s16_ s17_ s18_ s19_ s20_ s21_ s22_ s23_ s25_ s26_ s27_ s28_ s29_ s30_ s31_
      refine hi ?_
      intro W1 gHA gHB gHC q1 HA geHA HB geHB HC geHC neHAHB neHAHC neHBHC
      cases e1; cases e2; cases e3; cases e4; cases f22_; cases f23_; cases f26_; cases f27_; cases f30_; cases f31_
      try simp only [Act.put, x5, x6, x7]
      refine r1 (i := 6) rfl (fun K hK => ?_)
      · go_simp
        go_at_call 56
        (with_reducible refine (way_l _ _ _ _ Rbc.out.1 Rbc.out.2 _).mono ?_); rintro e w1 ⟨rfl, hb1⟩
        go_wp2_with fail
        refine hK.out _ _ ?_ (fun q2 => ?_)
        · exact ⟨(id q1).1.below hb1, (id q1).2.1.below hb1, (id q1).2.2.1.below hb1, (id q1).2.2.2.below hb1⟩
        refine wpAnyH_as (s24_.out _ gHA gHB gHC q2 (hi (HA.out.below hb1)) geHA (hi (HB.out.below hb1)) geHB (hi (HC.out.below hb1)) geHC neHAHB neHAHC neHBHC) (by kernel_rfl) (by kernel_rfl) (by kernel_rfl)
    have s33_ : Hid (∀ (W : World) (gHA : Nat) (gHB : Nat), S0 W → Hid (Var W gHA [.int .u64 0, .int .u64 0]) → w.heap.size + 3 ≤ gHA → Hid (Var W gHB [.int .u64 0, .int .u64 0]) → w.heap.size + 3 ≤ gHB → gHA ≠ gHB → wpAnyH Try.prog .any ops0 Qx S0 8 #[true, true, true, true, true, true, false, false, true, true, false, false, true, true, false, false, false, false] (Act.put (Act.put (Act.put (Act.put a0 (some 22) v22_) (some 23) v23_) (some 7) (.pointer (some ⟨gHA, 0, none⟩))) (some 8) (.pointer (some ⟨gHB, 0, none⟩))) W) := by
      clear s0_ s1_ s2_ s3_ s4_ s5_ s6_ s7_ s8_ s9_ s10_ s11_ s12_ s13_ s14_ s15_ s16_ s17_ s18_ s19_ s20_ s21_ s22_ s23_ s24_ s26_ s27_ s28_ s29_ s30_ s31_
      refine hi ?_
      intro W1 gHA gHB q1 HA geHA HB geHB neHAHB
      cases e1; cases e2; cases e3; cases e4; cases f22_; cases f23_; cases f26_; cases f27_; cases f30_; cases f31_
      try simp only [Act.put, x5, x6, x7]
      refine r2 (i := 6) (j := 14) rfl (fun K hK => ?_) rfl (fun K hK => ?_)
      · go_simp
        go_at_call 56
        (with_reducible refine (way_l _ _ _ _ Rbc.out.1 Rbc.out.2 _).mono ?_); rintro e w1 ⟨rfl, hb1⟩
        go_wp2_with fail
        refine hK.out _ _ ?_ (fun q2 => ?_)
        · exact ⟨(id q1).1.below hb1, (id q1).2.1.below hb1, (id q1).2.2.1.below hb1, (id q1).2.2.2.below hb1⟩
        refine wpAnyH_as (s25_.out _ gHA gHB q2 (hi (HA.out.below hb1)) geHA (hi (HB.out.below hb1)) geHB neHAHB) (by kernel_rfl) (by kernel_rfl) (by kernel_rfl)
      · go_simp
        refine hK.out _ _ ?_ (fun q2 => ?_)
        · exact ⟨(id q1).1.below (bl_one _ _), (id q1).2.1.below (bl_one _ _), (id q1).2.2.1.below (bl_one _ _), (id q1).2.2.2.below (bl_one _ _)⟩
        refine wpAnyH_as (s32_.out _ gHA gHB _ q2 (hi (HA.out.below (al_of (id q2).2.2.2 (bl_one _ _)))) geHA (hi (HB.out.below (al_of (id q2).2.2.2 (bl_one _ _)))) geHB (hi ((id q1).2.2.2.var2 (.int .u64 0) (.int .u64 0) 67)) (id q1).2.2.2.sz neHAHB (Nat.ne_of_lt HA.out.lt) (Nat.ne_of_lt HB.out.lt)) (by kernel_rfl) (by kernel_rfl) (by kernel_rfl)
    have s34_ : Hid (∀ (W : World) (gHA : Nat) (gHC : Nat), S0 W → Hid (Var W gHA [.int .u64 0, .int .u64 0]) → w.heap.size + 3 ≤ gHA → Hid (Var W gHC [.int .u64 0, .int .u64 0]) → w.heap.size + 3 ≤ gHC → gHA ≠ gHC → wpAnyH Try.prog .any ops0 Qx S0 8 #[true, true, true, true, true, true, false, false, true, true, false, false, true, false, true, false, false, false] (Act.put (Act.put (Act.put (Act.put a0 (some 22) v22_) (some 23) v23_) (some 7) (.pointer (some ⟨gHA, 0, none⟩))) (some 9) (.pointer (some ⟨gHC, 0, none⟩))) W) := by
      clear s0_ s1_ s2_ s3_ s4_ s5_ s6_ s7_ s8_ s9_ s10_ s11_ s12_ s13_ s14_ s15_ s16_ s17_ s18_ s19_ s20_ s21_ s22_ s23_ s24_ s25_ s27_ s28_ s29_ s30_ s31_ s33_
      refine hi ?_
      intro W1 gHA gHC q1 HA geHA HC geHC neHAHC
      cases e1; cases e2; cases e3; cases e4; cases f22_; cases f23_; cases f26_; cases f27_; cases f30_; cases f31_
      try simp only [Act.put, x5, x6, x7]
      refine r2 (i := 6) (j := 13) rfl (fun K hK => ?_) rfl (fun K hK => ?_)
      · go_simp
        go_at_call 56
        (with_reducible refine (way_l _ _ _ _ Rbc.out.1 Rbc.out.2 _).mono ?_); rintro e w1 ⟨rfl, hb1⟩
        go_wp2_with fail
        refine hK.out _ _ ?_ (fun q2 => ?_)
        · exact ⟨(id q1).1.below hb1, (id q1).2.1.below hb1, (id q1).2.2.1.below hb1, (id q1).2.2.2.below hb1⟩
        refine wpAnyH_as (s26_.out _ gHA gHC q2 (hi (HA.out.below hb1)) geHA (hi (HC.out.below hb1)) geHC neHAHC) (by kernel_rfl) (by kernel_rfl) (by kernel_rfl)
      · go_simp
        refine hK.out _ _ ?_ (fun q2 => ?_)
        · exact ⟨(id q1).1.below (bl_one _ _), (id q1).2.1.below (bl_one _ _), (id q1).2.2.1.below (bl_one _ _), (id q1).2.2.2.below (bl_one _ _)⟩
        refine wpAnyH_as (s32_.out _ gHA _ gHC q2 (hi (HA.out.below (al_of (id q2).2.2.2 (bl_one _ _)))) geHA (hi ((id q1).2.2.2.var2 (.int .u64 0) (.int .u64 0) 67)) (id q1).2.2.2.sz (hi (HC.out.below (al_of (id q2).2.2.2 (bl_one _ _)))) geHC (Nat.ne_of_lt HA.out.lt) neHAHC (Nat.ne_of_gt HC.out.lt)) (by kernel_rfl) (by kernel_rfl) (by kernel_rfl)
    have s35_ : Hid (∀ (W : World) (gHA : Nat), S0 W → Hid (Var W gHA [.int .u64 0, .int .u64 0]) → w.heap.size + 3 ≤ gHA → wpAnyH Try.prog .any ops0 Qx S0 9 #[true, true, true, true, true, true, false, false, true, true, false, false, true, false, false, false, false, false] (Act.put (Act.put (Act.put a0 (some 22) v22_) (some 23) v23_) (some 7) (.pointer (some ⟨gHA, 0, none⟩))) W) := by
      clear s0_ s1_ s2_ s3_ s4_ s5_ s6_ s7_ s8_ s9_ s10_ s11_ s12_ s13_ s14_ s15_ s16_ s17_ s18_ s19_ s20_ s21_ s22_ s23_ s24_ s25_ s26_ s28_ s29_ s30_ s31_ s32_
      refine hi ?_
      intro W1 gHA q1 HA geHA
      cases e1; cases e2; cases e3; cases e4; cases f22_; cases f23_; cases f26_; cases f27_; cases f30_; cases f31_
      try simp only [Act.put, x5, x6, x7]
      refine wpAnyH_ready (rs := [6, 13, 14]) (by kernel_rfl) (by simp) ?_
      refine (AllReadyH.cons rfl (fun K hK => ?_) (AllReadyH.cons rfl (fun K hK => ?_) (AllReadyH.cons rfl (fun K hK => ?_) AllReadyH.nil)))
      · rw [if_pos (by rfl)]
        go_simp
        go_at_call 56
        (with_reducible refine (way_l _ _ _ _ Rbc.out.1 Rbc.out.2 _).mono ?_); rintro e w1 ⟨rfl, hb1⟩
        go_wp2_with fail
        refine hK.out _ _ ?_ (fun q2 => ?_)
        · exact ⟨(id q1).1.below hb1, (id q1).2.1.below hb1, (id q1).2.2.1.below hb1, (id q1).2.2.2.below hb1⟩
        refine wpAnyH_as (s27_.out _ gHA q2 (hi (HA.out.below hb1)) geHA) (by kernel_rfl) (by kernel_rfl) (by kernel_rfl)
      · rw [if_pos (by rfl)]
        go_simp
        refine hK.out _ _ ?_ (fun q2 => ?_)
        · exact ⟨(id q1).1.below (bl_one _ _), (id q1).2.1.below (bl_one _ _), (id q1).2.2.1.below (bl_one _ _), (id q1).2.2.2.below (bl_one _ _)⟩
        refine wpAnyH_as (s33_.out _ gHA _ q2 (hi (HA.out.below (al_of (id q2).2.2.2 (bl_one _ _)))) geHA (hi ((id q1).2.2.2.var2 (.int .u64 0) (.int .u64 0) 67)) (id q1).2.2.2.sz (Nat.ne_of_lt HA.out.lt)) (by kernel_rfl) (by kernel_rfl) (by kernel_rfl)
      · rw [if_pos (by rfl)]
        go_simp
        refine hK.out _ _ ?_ (fun q2 => ?_)
        · exact ⟨(id q1).1.below (bl_one _ _), (id q1).2.1.below (bl_one _ _), (id q1).2.2.1.below (bl_one _ _), (id q1).2.2.2.below (bl_one _ _)⟩
        refine wpAnyH_as (s34_.out _ gHA _ q2 (hi (HA.out.below (al_of (id q2).2.2.2 (bl_one _ _)))) geHA (hi ((id q1).2.2.2.var2 (.int .u64 0) (.int .u64 0) 67)) (id q1).2.2.2.sz (Nat.ne_of_lt HA.out.lt)) (by kernel_rfl) (by kernel_rfl) (by kernel_rfl)
    have s36_ : Hid (∀ (W : World) (gHB : Nat) (gHC : Nat), S0 W → Hid (Var W gHB [.int .u64 0, .int .u64 0]) → w.heap.size + 3 ≤ gHB → Hid (Var W gHC [.int .u64 0, .int .u64 0]) → w.heap.size + 3 ≤ gHC → gHB ≠ gHC → wpAnyH Try.prog .any ops0 Qx S0 8 #[true, true, true, true, true, true, false, false, true, true, false, false, false, true, true, false, false, false] (Act.put (Act.put (Act.put (Act.put a0 (some 22) v22_) (some 23) v23_) (some 8) (.pointer (some ⟨gHB, 0, none⟩))) (some 9) (.pointer (some ⟨gHC, 0, none⟩))) W) := by
      clear s0_ s1_ s2_ s3_ s4_ s5_ s6_ s7_ s8_ s9_ s10_ s11_ s12_ s13_ s14_ s15_ s16_ s17_ s18_ s19_ s20_ s21_ s22_ s23_ s24_ s25_ s26_ s27_ s29_ s30_ s31_ s33_ s34_ s35_
      refine hi ?_
      intro W1 gHB gHC q1 HB geHB HC geHC neHBHC
      cases e1; cases e2; cases e3; cases e4; cases f22_; cases f23_; cases f26_; cases f27_; cases f30_; cases f31_
      try simp only [Act.put, x5, x6, x7]
      refine r2 (i := 6) (j := 12) rfl (fun K hK => ?_) rfl (fun K hK => ?_)
      · go_simp
        go_at_call 56
        (with_reducible refine (way_l _ _ _ _ Rbc.out.1 Rbc.out.2 _).mono ?_); rintro e w1 ⟨rfl, hb1⟩
        go_wp2_with fail
        refine hK.out _ _ ?_ (fun q2 => ?_)
        · exact ⟨(id q1).1.below hb1, (id q1).2.1.below hb1, (id q1).2.2.1.below hb1, (id q1).2.2.2.below hb1⟩
        refine wpAnyH_as (s28_.out _ gHB gHC q2 (hi (HB.out.below hb1)) geHB (hi (HC.out.below hb1)) geHC neHBHC) (by kernel_rfl) (by kernel_rfl) (by kernel_rfl)
      · go_simp
        refine hK.out _ _ ?_ (fun q2 => ?_)
        · exact ⟨(id q1).1.below (bl_one _ _), (id q1).2.1.below (bl_one _ _), (id q1).2.2.1.below (bl_one _ _), (id q1).2.2.2.below (bl_one _ _)⟩
        refine wpAnyH_as (s32_.out _ _ gHB gHC q2 (hi ((id q1).2.2.2.var2 (.int .u64 0) (.int .u64 0) 67)) (id q1).2.2.2.sz (hi (HB.out.below (al_of (id q2).2.2.2 (bl_one _ _)))) geHB (hi (HC.out.below (al_of (id q2).2.2.2 (bl_one _ _)))) geHC (Nat.ne_of_gt HB.out.lt) (Nat.ne_of_gt HC.out.lt) neHBHC) (by kernel_rfl) (by kernel_rfl) (by kernel_rfl)
    have s37_ : Hid (∀ (W : World) (gHB : Nat), S0 W → Hid (Var W gHB [.int .u64 0, .int .u64 0]) → w.heap.size + 3 ≤ gHB → wpAnyH Try.prog .any ops0 Qx S0 9 #[true, true, true, true, true, true, false, false, true, true, false, false, false, true, false, false, false, false] (Act.put (Act.put (Act.put a0 (some 22) v22_) (some 23) v23_) (some 8) (.pointer (some ⟨gHB, 0, none⟩))) W) := by
      clear s0_ s1_ s2_ s3_ s4_ s5_ s6_ s7_ s8_ s9_ s10_ s11_ s12_ s13_ s14_ s15_ s16_ s17_ s18_ s19_ s20_ s21_ s22_ s23_ s24_ s25_ s26_ s27_ s28_ s30_ s31_ s32_ s34_ s35_
      refine hi ?_
      intro W1 gHB q1 HB geHB
      cases e1; cases e2; cases e3; cases e4; cases f22_; cases f23_; cases f26_; cases f27_; cases f30_; cases f31_
      try simp only [Act.put, x5, x6, x7]
      refine wpAnyH_ready (rs := [6, 12, 14]) (by kernel_rfl) (by simp) ?_
      refine (AllReadyH.cons rfl (fun K hK => ?_) (AllReadyH.cons rfl (fun K hK => ?_) (AllReadyH.cons rfl (fun K hK => ?_) AllReadyH.nil)))
      · rw [if_pos (by rfl)]
        go_simp
        go_at_call 56
        (with_reducible refine (way_l _ _ _ _ Rbc.out.1 Rbc.out.2 _).mono ?_); rintro e w1 ⟨rfl, hb1⟩
        go_wp2_with fail
        refine hK.out _ _ ?_ (fun q2 => ?_)
        · exact ⟨(id q1).1.below hb1, (id q1).2.1.below hb1, (id q1).2.2.1.below hb1, (id q1).2.2.2.below hb1⟩
        refine wpAnyH_as (s29_.out _ gHB q2 (hi (HB.out.below hb1)) geHB) (by kernel_rfl) (by kernel_rfl) (by kernel_rfl)
      · rw [if_pos (by rfl)]
        go_simp
        refine hK.out _ _ ?_ (fun q2 => ?_)
        · exact ⟨(id q1).1.below (bl_one _ _), (id q1).2.1.below (bl_one _ _), (id q1).2.2.1.below (bl_one _ _), (id q1).2.2.2.below (bl_one _ _)⟩
        refine wpAnyH_as (s33_.out _ _ gHB q2 (hi ((id q1).2.2.2.var2 (.int .u64 0) (.int .u64 0) 67)) (id q1).2.2.2.sz (hi (HB.out.below (al_of (id q2).2.2.2 (bl_one _ _)))) geHB (Nat.ne_of_gt HB.out.lt)) (by kernel_rfl) (by kernel_rfl) (by kernel_rfl)
      · rw [if_pos (by rfl)]
        go_simp
        refine hK.out _ _ ?_ (fun q2 => ?_)
        · exact ⟨(id q1).1.below (bl_one _ _), (id q1).2.1.below (bl_one _ _), (id q1).2.2.1.below (bl_one _ _), (id q1).2.2.2.below (bl_one _ _)⟩
        refine wpAnyH_as (s36_.out _ gHB _ q2 (hi (HB.out.below (al_of (id q2).2.2.2 (bl_one _ _)))) geHB (hi ((id q1).2.2.2.var2 (.int .u64 0) (.int .u64 0) 67)) (id q1).2.2.2.sz (Nat.ne_of_lt HB.out.lt)) (by kernel_rfl) (by kernel_rfl) (by kernel_rfl)
    have s38_ : Hid (∀ (W : World) (gHC : Nat), S0 W → Hid (Var W gHC [.int .u64 0, .int .u64 0]) → w.heap.size + 3 ≤ gHC → wpAnyH Try.prog .any ops0 Qx S0 9 #[true, true, true, true, true, true, false, false, true, true, false, false, false, false, true, false, false, false] (Act.put (Act.put (Act.put a0 (some 22) v22_) (some 23) v23_) (some 9) (.pointer (some ⟨gHC, 0, none⟩))) W) := by
      clear s0_ s1_ s2_ s3_ s4_ s5_ s6_ s7_ s8_ s9_ s10_ s11_ s12_ s13_ s14_ s15_ s16_ s17_ s18_ s19_ s20_ s21_ s22_ s23_ s24_ s25_ s26_ s27_ s28_ s29_ s31_ s32_ s33_ s35_ s37_
      refine hi ?_
      intro W1 gHC q1 HC geHC
      cases e1; cases e2; cases e3; cases e4; cases f22_; cases f23_; cases f26_; cases f27_; cases f30_; cases f31_
      try simp only [Act.put, x5, x6, x7]
      refine wpAnyH_ready (rs := [6, 12, 13]) (by kernel_rfl) (by simp) ?_
      refine (AllReadyH.cons rfl (fun K hK => ?_) (AllReadyH.cons rfl (fun K hK => ?_) (AllReadyH.cons rfl (fun K hK => ?_) AllReadyH.nil)))
      · rw [if_pos (by rfl)]
        go_simp
        go_at_call 56
        (with_reducible refine (way_l _ _ _ _ Rbc.out.1 Rbc.out.2 _).mono ?_); rintro e w1 ⟨rfl, hb1⟩
        go_wp2_with fail
        refine hK.out _ _ ?_ (fun q2 => ?_)
        · exact ⟨(id q1).1.below hb1, (id q1).2.1.below hb1, (id q1).2.2.1.below hb1, (id q1).2.2.2.below hb1⟩
        refine wpAnyH_as (s30_.out _ gHC q2 (hi (HC.out.below hb1)) geHC) (by kernel_rfl) (by kernel_rfl) (by kernel_rfl)
      · rw [if_pos (by rfl)]
        go_simp
        refine hK.out _ _ ?_ (fun q2 => ?_)
        · exact ⟨(id q1).1.below (bl_one _ _), (id q1).2.1.below (bl_one _ _), (id q1).2.2.1.below (bl_one _ _), (id q1).2.2.2.below (bl_one _ _)⟩
        refine wpAnyH_as (s34_.out _ _ gHC q2 (hi ((id q1).2.2.2.var2 (.int .u64 0) (.int .u64 0) 67)) (id q1).2.2.2.sz (hi (HC.out.below (al_of (id q2).2.2.2 (bl_one _ _)))) geHC (Nat.ne_of_gt HC.out.lt)) (by kernel_rfl) (by kernel_rfl) (by kernel_rfl)
      · rw [if_pos (by rfl)]
        go_simp
        refine hK.out _ _ ?_ (fun q2 => ?_)
        · exact ⟨(id q1).1.below (bl_one _ _), (id q1).2.1.below (bl_one _ _), (id q1).2.2.1.below (bl_one _ _), (id q1).2.2.2.below (bl_one _ _)⟩
        refine wpAnyH_as (s36_.out _ _ gHC q2 (hi ((id q1).2.2.2.var2 (.int .u64 0) (.int .u64 0) 67)) (id q1).2.2.2.sz (hi (HC.out.below (al_of (id q2).2.2.2 (bl_one _ _)))) geHC (Nat.ne_of_gt HC.out.lt)) (by kernel_rfl) (by kernel_rfl) (by kernel_rfl)
    have s39_ : Hid (∀ (W : World), S0 W → wpAnyH Try.prog .any ops0 Qx S0 10 #[true, true, true, true, true, true, false, false, true, true, false, false, false, false, false, false, false, false] (Act.put (Act.put a0 (some 22) v22_) (some 23) v23_) W) := by
      clear s0_ s1_ s2_ s3_ s4_ s5_ s6_ s7_ s8_ s9_ s10_ s11_ s12_ s13_ s14_ s15_ s16_ s17_ s18_ s19_ s20_ s21_ s22_ s23_ s24_ s25_ s26_ s27_ s28_ s29_ s30_ s32_ s33_ s34_ s36_
      refine hi ?_
      intro W1  q1 
      cases e1; cases e2; cases e3; cases e4; cases f22_; cases f23_; cases f26_; cases f27_; cases f30_; cases f31_
      try simp only [Act.put, x5, x6, x7]
      refine wpAnyH_ready (rs := [6, 12, 13, 14]) (by kernel_rfl) (by simp) ?_
      refine (AllReadyH.cons rfl (fun K hK => ?_) (AllReadyH.cons rfl (fun K hK => ?_) (AllReadyH.cons rfl (fun K hK => ?_) (AllReadyH.cons rfl (fun K hK => ?_) AllReadyH.nil))))
      · rw [if_pos (by rfl)]
        go_simp
        go_at_call 56
        (with_reducible refine (way_l _ _ _ _ Rbc.out.1 Rbc.out.2 _).mono ?_); rintro e w1 ⟨rfl, hb1⟩
        go_wp2_with fail
        refine hK.out _ _ ?_ (fun q2 => ?_)
        · exact ⟨(id q1).1.below hb1, (id q1).2.1.below hb1, (id q1).2.2.1.below hb1, (id q1).2.2.2.below hb1⟩
        refine wpAnyH_as (s31_.out _ q2) (by kernel_rfl) (by kernel_rfl) (by kernel_rfl)
      · rw [if_pos (by rfl)]
        go_simp
        refine hK.out _ _ ?_ (fun q2 => ?_)
        · exact ⟨(id q1).1.below (bl_one _ _), (id q1).2.1.below (bl_one _ _), (id q1).2.2.1.below (bl_one _ _), (id q1).2.2.2.below (bl_one _ _)⟩
        refine wpAnyH_as (s35_.out _ _ q2 (hi ((id q1).2.2.2.var2 (.int .u64 0) (.int .u64 0) 67)) (id q1).2.2.2.sz) (by kernel_rfl) (by kernel_rfl) (by kernel_rfl)
      · rw [if_pos (by rfl)]
        go_simp
        refine hK.out _ _ ?_ (fun q2 => ?_)
        · exact ⟨(id q1).1.below (bl_one _ _), (id q1).2.1.below (bl_one _ _), (id q1).2.2.1.below (bl_one _ _), (id q1).2.2.2.below (bl_one _ _)⟩
        refine wpAnyH_as (s37_.out _ _ q2 (hi ((id q1).2.2.2.var2 (.int .u64 0) (.int .u64 0) 67)) (id q1).2.2.2.sz) (by kernel_rfl) (by kernel_rfl) (by kernel_rfl)
      · rw [if_pos (by rfl)]
        go_simp
        refine hK.out _ _ ?_ (fun q2 => ?_)
        · exact ⟨(id q1).1.below (bl_one _ _), (id q1).2.1.below (bl_one _ _), (id q1).2.2.1.below (bl_one _ _), (id q1).2.2.2.below (bl_one _ _)⟩
        refine wpAnyH_as (s38_.out _ _ q2 (hi ((id q1).2.2.2.var2 (.int .u64 0) (.int .u64 0) 67)) (id q1).2.2.2.sz) (by kernel_rfl) (by kernel_rfl) (by kernel_rfl)
    have s40_ : Hid (∀ (W : World) (gHA : Nat) (gHB : Nat) (gHC : Nat), S0 W → Hid (Var W gHA [.int .u64 0, .int .u64 0]) → w.heap.size + 3 ≤ gHA → Hid (Var W gHB [.int .u64 0, .int .u64 0]) → w.heap.size + 3 ≤ gHB → Hid (Var W gHC [.int .u64 0, .int .u64 0]) → w.heap.size + 3 ≤ gHC → gHA ≠ gHB → gHA ≠ gHC → gHB ≠ gHC → wpAnyH Try.prog .any ops0 Qx S0 8 #[true, true, true, false, true, true, false, false, true, true, false, false, true, true, true, false, false, false] (Act.put (Act.put (Act.put (Act.put a0 (some 22) v22_) (some 7) (.pointer (some ⟨gHA, 0, none⟩))) (some 8) (.pointer (some ⟨gHB, 0, none⟩))) (some 9) (.pointer (some ⟨gHC, 0, none⟩))) W) := by
      clear s0_ s1_ s2_ s3_ s4_ s5_ s6_ s7_ s8_ s9_ s10_ s11_ s12_ s13_ s14_ s15_ s16_ s17_ s18_ s19_ s20_ s21_ s22_ s23_ s24_ s25_ s26_ s27_ s28_ s29_ s30_ s31_ s33_ s34_ s35_ s36_ s37_ s38_ s39_
      refine hi ?_
      intro W1 gHA gHB gHC q1 HA geHA HB geHB HC geHC neHAHB neHAHC neHBHC
      cases e1; cases e2; cases e3; cases e4; cases f22_; cases f23_; cases f26_; cases f27_; cases f30_; cases f31_
      try simp only [Act.put, x5, x6, x7]
      refine r1 (i := 3) rfl (fun K hK => ?_)
      · go_simp
        go_at_call 64
        (with_reducible refine (square_l _ _ Rab.out.1 Rab.out.2 _).mono ?_); rintro e w1 ⟨rfl, hb1⟩
        go_wp2_with fail
        refine hK.out _ _ ?_ (fun q2 => ?_)
        · exact ⟨(id q1).1.below hb1, (id q1).2.1.below hb1, (id q1).2.2.1.below hb1, (id q1).2.2.2.below hb1⟩
        refine wpAnyH_as (s32_.out _ gHA gHB gHC q2 (hi (HA.out.below hb1)) geHA (hi (HB.out.below hb1)) geHB (hi (HC.out.below hb1)) geHC neHAHB neHAHC neHBHC) (by kernel_rfl) (by kernel_rfl) (by kernel_rfl)
    have s41_ : Hid (∀ (W : World) (gHA : Nat) (gHB : Nat), S0 W → Hid (Var W gHA [.int .u64 0, .int .u64 0]) → w.heap.size + 3 ≤ gHA → Hid (Var W gHB [.int .u64 0, .int .u64 0]) → w.heap.size + 3 ≤ gHB → gHA ≠ gHB → wpAnyH Try.prog .any ops0 Qx S0 9 #[true, true, true, false, true, true, false, false, true, true, false, false, true, true, false, false, false, false] (Act.put (Act.put (Act.put a0 (some 22) v22_) (some 7) (.pointer (some ⟨gHA, 0, none⟩))) (some 8) (.pointer (some ⟨gHB, 0, none⟩))) W) := by
      clear s0_ s1_ s2_ s3_ s4_ s5_ s6_ s7_ s8_ s9_ s10_ s11_ s12_ s13_ s14_ s15_ s16_ s17_ s18_ s19_ s20_ s21_ s22_ s23_ s24_ s25_ s26_ s27_ s28_ s29_ s30_ s31_ s32_ s34_ s35_ s36_ s37_ s38_ s39_
      refine hi ?_
      intro W1 gHA gHB q1 HA geHA HB geHB neHAHB
      cases e1; cases e2; cases e3; cases e4; cases f22_; cases f23_; cases f26_; cases f27_; cases f30_; cases f31_
      try simp only [Act.put, x5, x6, x7]
      refine r2 (i := 3) (j := 14) rfl (fun K hK => ?_) rfl (fun K hK => ?_)
      · go_simp
        go_at_call 64
        (with_reducible refine (square_l _ _ Rab.out.1 Rab.out.2 _).mono ?_); rintro e w1 ⟨rfl, hb1⟩
        go_wp2_with fail
        refine hK.out _ _ ?_ (fun q2 => ?_)
        · exact ⟨(id q1).1.below hb1, (id q1).2.1.below hb1, (id q1).2.2.1.below hb1, (id q1).2.2.2.below hb1⟩
        refine wpAnyH_as (s33_.out _ gHA gHB q2 (hi (HA.out.below hb1)) geHA (hi (HB.out.below hb1)) geHB neHAHB) (by kernel_rfl) (by kernel_rfl) (by kernel_rfl)
      · go_simp
        refine hK.out _ _ ?_ (fun q2 => ?_)
        · exact ⟨(id q1).1.below (bl_one _ _), (id q1).2.1.below (bl_one _ _), (id q1).2.2.1.below (bl_one _ _), (id q1).2.2.2.below (bl_one _ _)⟩
        refine wpAnyH_as (s40_.out _ gHA gHB _ q2 (hi (HA.out.below (al_of (id q2).2.2.2 (bl_one _ _)))) geHA (hi (HB.out.below (al_of (id q2).2.2.2 (bl_one _ _)))) geHB (hi ((id q1).2.2.2.var2 (.int .u64 0) (.int .u64 0) 67)) (id q1).2.2.2.sz neHAHB (Nat.ne_of_lt HA.out.lt) (Nat.ne_of_lt HB.out.lt)) (by kernel_rfl) (by kernel_rfl) (by kernel_rfl)
    have s42_ : Hid (∀ (W : World) (gHA : Nat) (gHC : Nat), S0 W → Hid (Var W gHA [.int .u64 0, .int .u64 0]) → w.heap.size + 3 ≤ gHA → Hid (Var W gHC [.int .u64 0, .int .u64 0]) → w.heap.size + 3 ≤ gHC → gHA ≠ gHC → wpAnyH Try.prog .any ops0 Qx S0 9 #[true, true, true, false, true, true, false, false, true, true, false, false, true, false, true, false, false, false] (Act.put (Act.put (Act.put a0 (some 22) v22_) (some 7) (.pointer (some ⟨gHA, 0, none⟩))) (some 9) (.pointer (some ⟨gHC, 0, none⟩))) W) := by
      clear s0_ s1_ s2_ s3_ s4_ s5_ s6_ s7_ s8_ s9_ s10_ s11_ s12_ s13_ s14_ s15_ s16_ s17_ s18_ s19_ s20_ s21_ s22_ s23_ s24_ s25_ s26_ s27_ s28_ s29_ s30_ s31_ s32_ s33_ s35_ s36_ s37_ s38_ s39_ s41_
      refine hi ?_
      intro W1 gHA gHC q1 HA geHA HC geHC neHAHC
      cases e1; cases e2; cases e3; cases e4; cases f22_; cases f23_; cases f26_; cases f27_; cases f30_; cases f31_
      try simp only [Act.put, x5, x6, x7]
      refine r2 (i := 3) (j := 13) rfl (fun K hK => ?_) rfl (fun K hK => ?_)
      · go_simp
        go_at_call 64
        (with_reducible refine (square_l _ _ Rab.out.1 Rab.out.2 _).mono ?_); rintro e w1 ⟨rfl, hb1⟩
        go_wp2_with fail
        refine hK.out _ _ ?_ (fun q2 => ?_)
        · exact ⟨(id q1).1.below hb1, (id q1).2.1.below hb1, (id q1).2.2.1.below hb1, (id q1).2.2.2.below hb1⟩
        refine wpAnyH_as (s34_.out _ gHA gHC q2 (hi (HA.out.below hb1)) geHA (hi (HC.out.below hb1)) geHC neHAHC) (by kernel_rfl) (by kernel_rfl) (by kernel_rfl)
      · go_simp
        refine hK.out _ _ ?_ (fun q2 => ?_)
        · exact ⟨(id q1).1.below (bl_one _ _), (id q1).2.1.below (bl_one _ _), (id q1).2.2.1.below (bl_one _ _), (id q1).2.2.2.below (bl_one _ _)⟩
        refine wpAnyH_as (s40_.out _ gHA _ gHC q2 (hi (HA.out.below (al_of (id q2).2.2.2 (bl_one _ _)))) geHA (hi ((id q1).2.2.2.var2 (.int .u64 0) (.int .u64 0) 67)) (id q1).2.2.2.sz (hi (HC.out.below (al_of (id q2).2.2.2 (bl_one _ _)))) geHC (Nat.ne_of_lt HA.out.lt) neHAHC (Nat.ne_of_gt HC.out.lt)) (by kernel_rfl) (by kernel_rfl) (by kernel_rfl)
    have s43_ : Hid (∀ (W : World) (gHA : Nat), S0 W → Hid (Var W gHA [.int .u64 0, .int .u64 0]) → w.heap.size + 3 ≤ gHA → wpAnyH Try.prog .any ops0 Qx S0 10 #[true, true, true, false, true, true, false, false, true, true, false, false, true, false, false, false, false, false] (Act.put (Act.put a0 (some 22) v22_) (some 7) (.pointer (some ⟨gHA, 0, none⟩))) W) := by
      clear s0_ s1_ s2_ s3_ s4_ s5_ s6_ s7_ s8_ s9_ s10_ s11_ s12_ s13_ s14_ s15_ s16_ s17_ s18_ s19_ s20_ s21_ s22_ s23_ s24_ s25_ s26_ s27_ s28_ s29_ s30_ s31_ s32_ s33_ s34_ s36_ s37_ s38_ s39_ s40_
      refine hi ?_
      intro W1 gHA q1 HA geHA
      cases e1; cases e2; cases e3; cases e4; cases f22_; cases f23_; cases f26_; cases f27_; cases f30_; cases f31_
      try simp only [Act.put, x5, x6, x7]
      refine wpAnyH_ready (rs := [3, 13, 14]) (by kernel_rfl) (by simp) ?_
      refine (AllReadyH.cons rfl (fun K hK => ?_) (AllReadyH.cons rfl (fun K hK => ?_) (AllReadyH.cons rfl (fun K hK => ?_) AllReadyH.nil)))
      · rw [if_pos (by rfl)]
        go_simp
        go_at_call 64
        (with_reducible refine (square_l _ _ Rab.out.1 Rab.out.2 _).mono ?_); rintro e w1 ⟨rfl, hb1⟩
        go_wp2_with fail
        refine hK.out _ _ ?_ (fun q2 => ?_)
        · exact ⟨(id q1).1.below hb1, (id q1).2.1.below hb1, (id q1).2.2.1.below hb1, (id q1).2.2.2.below hb1⟩
        refine wpAnyH_as (s35_.out _ gHA q2 (hi (HA.out.below hb1)) geHA) (by kernel_rfl) (by kernel_rfl) (by kernel_rfl)
      · rw [if_pos (by rfl)]
        go_simp
        refine hK.out _ _ ?_ (fun q2 => ?_)
        · exact ⟨(id q1).1.below (bl_one _ _), (id q1).2.1.below (bl_one _ _), (id q1).2.2.1.below (bl_one _ _), (id q1).2.2.2.below (bl_one _ _)⟩
        refine wpAnyH_as (s41_.out _ gHA _ q2 (hi (HA.out.below (al_of (id q2).2.2.2 (bl_one _ _)))) geHA (hi ((id q1).2.2.2.var2 (.int .u64 0) (.int .u64 0) 67)) (id q1).2.2.2.sz (Nat.ne_of_lt HA.out.lt)) (by kernel_rfl) (by kernel_rfl) (by kernel_rfl)
      · rw [if_pos (by rfl)]
        go_simp
        refine hK.out _ _ ?_ (fun q2 => ?_)
        · exact ⟨(id q1).1.below (bl_one _ _), (id q1).2.1.below (bl_one _ _), (id q1).2.2.1.below (bl_one _ _), (id q1).2.2.2.below (bl_one _ _)⟩
        refine wpAnyH_as (s42_.out _ gHA _ q2 (hi (HA.out.below (al_of (id q2).2.2.2 (bl_one _ _)))) geHA (hi ((id q1).2.2.2.var2 (.int .u64 0) (.int .u64 0) 67)) (id q1).2.2.2.sz (Nat.ne_of_lt HA.out.lt)) (by kernel_rfl) (by kernel_rfl) (by kernel_rfl)
    have s44_ : Hid (∀ (W : World) (gHB : Nat) (gHC : Nat), S0 W → Hid (Var W gHB [.int .u64 0, .int .u64 0]) → w.heap.size + 3 ≤ gHB → Hid (Var W gHC [.int .u64 0, .int .u64 0]) → w.heap.size + 3 ≤ gHC → gHB ≠ gHC → wpAnyH Try.prog .any ops0 Qx S0 9 #[true, true, true, false, true, true, false, false, true, true, false, false, false, true, true, false, false, false] (Act.put (Act.put (Act.put a0 (some 22) v22_) (some 8) (.pointer (some ⟨gHB, 0, none⟩))) (some 9) (.pointer (some ⟨gHC, 0, none⟩))) W) := by
      clear s0_ s1_ s2_ s3_ s4_ s5_ s6_ s7_ s8_ s9_ s10_ s11_ s12_ s13_ s14_ s15_ s16_ s17_ s18_ s19_ s20_ s21_ s22_ s23_ s24_ s25_ s26_ s27_ s28_ s29_ s30_ s31_ s32_ s33_ s34_ s35_ s37_ s38_ s39_ s41_ s42_ s43_
      refine hi ?_
      intro W1 gHB gHC q1 HB geHB HC geHC neHBHC
      cases e1; cases e2; cases e3; cases e4; cases f22_; cases f23_; cases f26_; cases f27_; cases f30_; cases f31_
      try simp only [Act.put, x5, x6, x7]
      refine r2 (i := 3) (j := 12) rfl (fun K hK => ?_) rfl (fun K hK => ?_)
      · go_simp
        go_at_call 64
        (with_reducible refine (square_l _ _ Rab.out.1 Rab.out.2 _).mono ?_); rintro e w1 ⟨rfl, hb1⟩
        go_wp2_with fail
        refine hK.out _ _ ?_ (fun q2 => ?_)
        · exact ⟨(id q1).1.below hb1, (id q1).2.1.below hb1, (id q1).2.2.1.below hb1, (id q1).2.2.2.below hb1⟩
        refine wpAnyH_as (s36_.out _ gHB gHC q2 (hi (HB.out.below hb1)) geHB (hi (HC.out.below hb1)) geHC neHBHC) (by kernel_rfl) (by kernel_rfl) (by kernel_rfl)
      · go_simp
        refine hK.out _ _ ?_ (fun q2 => ?_)
        · exact ⟨(id q1).1.below (bl_one _ _), (id q1).2.1.below (bl_one _ _), (id q1).2.2.1.below (bl_one _ _), (id q1).2.2.2.below (bl_one _ _)⟩
        refine wpAnyH_as (s40_.out _ _ gHB gHC q2 (hi ((id q1).2.2.2.var2 (.int .u64 0) (.int .u64 0) 67)) (id q1).2.2.2.sz (hi (HB.out.below (al_of (id q2).2.2.2 (bl_one _ _)))) geHB (hi (HC.out.below (al_of (id q2).2.2.2 (bl_one _ _)))) geHC (Nat.ne_of_gt HB.out.lt) (Nat.ne_of_gt HC.out.lt) neHBHC) (by kernel_rfl) (by kernel_rfl) (by kernel_rfl)
    have s45_ : Hid (∀ (W : World) (gHB : Nat), S0 W → Hid (Var W gHB [.int .u64 0, .int .u64 0]) → w.heap.size + 3 ≤ gHB → wpAnyH Try.prog .any ops0 Qx S0 10 #[true, true, true, false, true, true, false, false, true, true, false, false, false, true, false, false, false, false] (Act.put (Act.put a0 (some 22) v22_) (some 8) (.pointer (some ⟨gHB, 0, none⟩))) W) := by
      clear s0_ s1_ s2_ s3_ s4_ s5_ s6_ s7_ s8_ s9_ s10_ s11_ s12_ s13_ s14_ s15_ s16_ s17_ s18_ s19_ s20_ s21_ s22_ s23_ s24_ s25_ s26_ s27_ s28_ s29_ s30_ s31_ s32_ s33_ s34_ s35_ s36_ s38_ s39_ s40_ s42_ s43_
      refine hi ?_
      intro W1 gHB q1 HB geHB
      cases e1; cases e2; cases e3; cases e4; cases f22_; cases f23_; cases f26_; cases f27_; cases f30_; cases f31_
      try simp only [Act.put, x5, x6, x7]
      refine wpAnyH_ready (rs := [3, 12, 14]) (by kernel_rfl) (by simp) ?_
      refine (AllReadyH.cons rfl (fun K hK => ?_) (AllReadyH.cons rfl (fun K hK => ?_) (AllReadyH.cons rfl (fun K hK => ?_) AllReadyH.nil)))
      · rw [if_pos (by rfl)]
        go_simp
        go_at_call 64
        (with_reducible refine (square_l _ _ Rab.out.1 Rab.out.2 _).mono ?_); rintro e w1 ⟨rfl, hb1⟩
        go_wp2_with fail
        refine hK.out _ _ ?_ (fun q2 => ?_)
        · exact ⟨(id q1).1.below hb1, (id q1).2.1.below hb1, (id q1).2.2.1.below hb1, (id q1).2.2.2.below hb1⟩
        refine wpAnyH_as (s37_.out _ gHB q2 (hi (HB.out.below hb1)) geHB) (by kernel_rfl) (by kernel_rfl) (by kernel_rfl)
      · rw [if_pos (by rfl)]
        go_simp
        refine hK.out _ _ ?_ (fun q2 => ?_)
        · exact ⟨(id q1).1.below (bl_one _ _), (id q1).2.1.below (bl_one _ _), (id q1).2.2.1.below (bl_one _ _), (id q1).2.2.2.below (bl_one _ _)⟩
        refine wpAnyH_as (s41_.out _ _ gHB q2 (hi ((id q1).2.2.2.var2 (.int .u64 0) (.int .u64 0) 67)) (id q1).2.2.2.sz (hi (HB.out.below (al_of (id q2).2.2.2 (bl_one _ _)))) geHB (Nat.ne_of_gt HB.out.lt)) (by kernel_rfl) (by kernel_rfl) (by kernel_rfl)
      · rw [if_pos (by rfl)]
        go_simp
        refine hK.out _ _ ?_ (fun q2 => ?_)
        · exact ⟨(id q1).1.below (bl_one _ _), (id q1).2.1.below (bl_one _ _), (id q1).2.2.1.below (bl_one _ _), (id q1).2.2.2.below (bl_one _ _)⟩
        refine wpAnyH_as (s44_.out _ gHB _ q2 (hi (HB.out.below (al_of (id q2).2.2.2 (bl_one _ _)))) geHB (hi ((id q1).2.2.2.var2 (.int .u64 0) (.int .u64 0) 67)) (id q1).2.2.2.sz (Nat.ne_of_lt HB.out.lt)) (by kernel_rfl) (by kernel_rfl) (by kernel_rfl)
    have s46_ : Hid (∀ (W : World) (gHC : Nat), S0 W → Hid (Var W gHC [.int .u64 0, .int .u64 0]) → w.heap.size + 3 ≤ gHC → wpAnyH Try.prog .any ops0 Qx S0 10 #[true, true, true, false, true, true, false, false, true, true, false, false, false, false, true, false, false, false] (Act.put (Act.put a0 (some 22) v22_) (some 9) (.pointer (some ⟨gHC, 0, none⟩))) W) := by
      clear s0_ s1_ s2_ s3_ s4_ s5_ s6_ s7_ s8_ s9_ s10_ s11_ s12_ s13_ s14_ s15_ s16_ s17_ s18_ s19_ s20_ s21_ s22_ s23_ s24_ s25_ s26_ s27_ s28_ s29_ s30_ s31_ s32_ s33_ s34_ s35_ s36_ s37_ s39_ s40_ s41_ s43_ s45_
      refine hi ?_
      intro W1 gHC q1 HC geHC
      cases e1; cases e2; cases e3; cases e4; cases f22_; cases f23_; cases f26_; cases f27_; cases f30_; cases f31_
      try simp only [Act.put, x5, x6, x7]
      refine wpAnyH_ready (rs := [3, 12, 13]) (by kernel_rfl) (by simp) ?_
      refine (AllReadyH.cons rfl (fun K hK => ?_) (AllReadyH.cons rfl (fun K hK => ?_) (AllReadyH.cons rfl (fun K hK => ?_) AllReadyH.nil)))
      · rw [if_pos (by rfl)]
        go_simp
        go_at_call 64
        (with_reducible refine (square_l _ _ Rab.out.1 Rab.out.2 _).mono ?_); rintro e w1 ⟨rfl, hb1⟩
        go_wp2_with fail
        refine hK.out _ _ ?_ (fun q2 => ?_)
        · exact ⟨(id q1).1.below hb1, (id q1).2.1.below hb1, (id q1).2.2.1.below hb1, (id q1).2.2.2.below hb1⟩
        refine wpAnyH_as (s38_.out _ gHC q2 (hi (HC.out.below hb1)) geHC) (by kernel_rfl) (by kernel_rfl) (by kernel_rfl)
      · rw [if_pos (by rfl)]
        go_simp
        refine hK.out _ _ ?_ (fun q2 => ?_)
        · exact ⟨(id q1).1.below (bl_one _ _), (id q1).2.1.below (bl_one _ _), (id q1).2.2.1.below (bl_one _ _), (id q1).2.2.2.below (bl_one _ _)⟩
        refine wpAnyH_as (s42_.out _ _ gHC q2 (hi ((id q1).2.2.2.var2 (.int .u64 0) (.int .u64 0) 67)) (id q1).2.2.2.sz (hi (HC.out.below (al_of (id q2).2.2.2 (bl_one _ _)))) geHC (Nat.ne_of_gt HC.out.lt)) (by kernel_rfl) (by kernel_rfl) (by kernel_rfl)
      · rw [if_pos (by rfl)]
        go_simp
        refine hK.out _ _ ?_ (fun q2 => ?_)
        · exact ⟨(id q1).1.below (bl_one _ _), (id q1).2.1.below (bl_one _ _), (id q1).2.2.1.below (bl_one _ _), (id q1).2.2.2.below (bl_one _ _)⟩
        refine wpAnyH_as (s44_.out _ _ gHC q2 (hi ((id q1).2.2.2.var2 (.int .u64 0) (.int .u64 0) 67)) (id q1).2.2.2.sz (hi (HC.out.below (al_of (id q2).2.2.2 (bl_one _ _)))) geHC (Nat.ne_of_gt HC.out.lt)) (by kernel_rfl) (by kernel_rfl) (by kernel_rfl)
    have s47_ : Hid (∀ (W : World), S0 W → wpAnyH Try.prog .any ops0 Qx S0 11 #[true, true, true, false, true, true, false, false, true, true, false, false, false, false, false, false, false, false] (Act.put a0 (some 22) v22_) W) := by
      clear s0_ s1_ s2_ s3_ s4_ s5_ s6_ s7_ s8_ s9_ s10_ s11_ s12_ s13_ s14_ s15_ s16_ s17_ s18_ s19_ s20_ s21_ s22_ s23_ s24_ s25_ s26_ s27_ s28_ s29_ s30_ s31_ s32_ s33_ s34_ s35_ s36_ s37_ s38_ s40_ s41_ s42_ s44_
      refine hi ?_
      intro W1  q1 
      cases e1; cases e2; cases e3; cases e4; cases f22_; cases f23_; cases f26_; cases f27_; cases f30_; cases f31_
      try simp only [Act.put, x5, x6, x7]
      refine wpAnyH_ready (rs := [3, 12, 13, 14]) (by kernel_rfl) (by simp) ?_
      refine (AllReadyH.cons rfl (fun K hK => ?_) (AllReadyH.cons rfl (fun K hK => ?_) (AllReadyH.cons rfl (fun K hK => ?_) (AllReadyH.cons rfl (fun K hK => ?_) AllReadyH.nil))))
      · rw [if_pos (by rfl)]
        go_simp
        go_at_call 64
        (with_reducible refine (square_l _ _ Rab.out.1 Rab.out.2 _).mono ?_); rintro e w1 ⟨rfl, hb1⟩
        go_wp2_with fail
        refine hK.out _ _ ?_ (fun q2 => ?_)
        · exact ⟨(id q1).1.below hb1, (id q1).2.1.below hb1, (id q1).2.2.1.below hb1, (id q1).2.2.2.below hb1⟩
        refine wpAnyH_as (s39_.out _ q2) (by kernel_rfl) (by kernel_rfl) (by kernel_rfl)
      · rw [if_pos (by rfl)]
        go_simp
        refine hK.out _ _ ?_ (fun q2 => ?_)
        · exact ⟨(id q1).1.below (bl_one _ _), (id q1).2.1.below (bl_one _ _), (id q1).2.2.1.below (bl_one _ _), (id q1).2.2.2.below (bl_one _ _)⟩
        refine wpAnyH_as (s43_.out _ _ q2 (hi ((id q1).2.2.2.var2 (.int .u64 0) (.int .u64 0) 67)) (id q1).2.2.2.sz) (by kernel_rfl) (by kernel_rfl) (by kernel_rfl)
      · rw [if_pos (by rfl)]
        go_simp
        refine hK.out _ _ ?_ (fun q2 => ?_)
        · exact ⟨(id q1).1.below (bl_one _ _), (id q1).2.1.below (bl_one _ _), (id q1).2.2.1.below (bl_one _ _), (id q1).2.2.2.below (bl_one _ _)⟩
        refine wpAnyH_as (s45_.out _ _ q2 (hi ((id q1).2.2.2.var2 (.int .u64 0) (.int .u64 0) 67)) (id q1).2.2.2.sz) (by kernel_rfl) (by kernel_rfl) (by kernel_rfl)
      · rw [if_pos (by rfl)]
        go_simp
        refine hK.out _ _ ?_ (fun q2 => ?_)
        · exact ⟨(id q1).1.below (bl_one _ _), (id q1).2.1.below (bl_one _ _), (id q1).2.2.1.below (bl_one _ _), (id q1).2.2.2.below (bl_one _ _)⟩
        refine wpAnyH_as (s46_.out _ _ q2 (hi ((id q1).2.2.2.var2 (.int .u64 0) (.int .u64 0) 67)) (id q1).2.2.2.sz) (by kernel_rfl) (by kernel_rfl) (by kernel_rfl)
    have s48_ : Hid (∀ (W : World) (gHA : Nat) (gHB : Nat) (gHC : Nat), S0 W → Hid (Var W gHA [.int .u64 0, .int .u64 0]) → w.heap.size + 3 ≤ gHA → Hid (Var W gHB [.int .u64 0, .int .u64 0]) → w.heap.size + 3 ≤ gHB → Hid (Var W gHC [.int .u64 0, .int .u64 0]) → w.heap.size + 3 ≤ gHC → gHA ≠ gHB → gHA ≠ gHC → gHB ≠ gHC → wpAnyH Try.prog .any ops0 Qx S0 9 #[true, true, false, false, true, true, false, false, true, true, false, false, true, true, true, false, false, false] (Act.put (Act.put (Act.put a0 (some 7) (.pointer (some ⟨gHA, 0, none⟩))) (some 8) (.pointer (some ⟨gHB, 0, none⟩))) (some 9) (.pointer (some ⟨gHC, 0, none⟩))) W) := by
      clear s0_ s1_ s2_ s3_ s4_ s5_ s6_ s7_ s8_ s9_ s10_ s11_ s12_ s13_ s14_ s15_ s16_ s17_ s18_ s19_ s20_ s21_ s22_ s23_ s24_ s25_ s26_ s27_ s28_ s29_ s30_ s31_ s32_ s33_ s34_ s35_ s36_ s37_ s38_ s39_ s41_ s42_ s43_ s44_ s45_ s46_ s47_
      refine hi ?_
      intro W1 gHA gHB gHC q1 HA geHA HB geHB HC geHC neHAHB neHAHC neHBHC
      cases e1; cases e2; cases e3; cases e4; cases f22_; cases f23_; cases f26_; cases f27_; cases f30_; cases f31_
      try simp only [Act.put, x5, x6, x7]
      refine r1 (i := 2) rfl (fun K hK => ?_)
      · go_simp
        go_at_call 56
        (with_reducible refine (way_l _ _ _ _ Rab.out.1 Rab.out.2 _).mono ?_); rintro e w1 ⟨rfl, hb1⟩
        go_wp2_with fail
        refine hK.out _ _ ?_ (fun q2 => ?_)
        · exact ⟨(id q1).1.below hb1, (id q1).2.1.below hb1, (id q1).2.2.1.below hb1, (id q1).2.2.2.below hb1⟩
        refine wpAnyH_as (s40_.out _ gHA gHB gHC q2 (hi (HA.out.below hb1)) geHA (hi (HB.out.below hb1)) geHB (hi (HC.out.below hb1)) geHC neHAHB neHAHC neHBHC) (by kernel_rfl) (by kernel_rfl) (by kernel_rfl)
    have s49_ : Hid (∀ (W : World) (gHA : Nat) (gHB : Nat), S0 W → Hid (Var W gHA [.int .u64 0, .int .u64 0]) → w.heap.size + 3 ≤ gHA → Hid (Var W gHB [.int .u64 0, .int .u64 0]) → w.heap.size + 3 ≤ gHB → gHA ≠ gHB → wpAnyH Try.prog .any ops0 Qx S0 10 #[true, true, false, false, true, true, false, false, true, true, false, false, true, true, false, false, false, false] (Act.put (Act.put a0 (some 7) (.pointer (some ⟨gHA, 0, none⟩))) (some 8) (.pointer (some ⟨gHB, 0, none⟩))) W) := by
      clear s0_ s1_ s2_ s3_ s4_ s5_ s6_ s7_ s8_ s9_ s10_ s11_ s12_ s13_ s14_ s15_ s16_ s17_ s18_ s19_ s20_ s21_ s22_ s23_ s24_ s25_ s26_ s27_ s28_ s29_ s30_ s31_ s32_ s33_ s34_ s35_ s36_ s37_ s38_ s39_ s40_ s42_ s43_ s44_ s45_ s46_ s47_
      refine hi ?_
      intro W1 gHA gHB q1 HA geHA HB geHB neHAHB
      cases e1; cases e2; cases e3; cases e4; cases f22_; cases f23_; cases f26_; cases f27_; cases f30_; cases f31_
      try simp only [Act.put, x5, x6, x7]
      refine r2 (i := 2) (j := 14) rfl (fun K hK => ?_) rfl (fun K hK => ?_)
      · go_simp
        go_at_call 56
        (with_reducible refine (way_l _ _ _ _ Rab.out.1 Rab.out.2 _).mono ?_); rintro e w1 ⟨rfl, hb1⟩
        go_wp2_with fail
        refine hK.out _ _ ?_ (fun q2 => ?_)
        · exact ⟨(id q1).1.below hb1, (id q1).2.1.below hb1, (id q1).2.2.1.below hb1, (id q1).2.2.2.below hb1⟩
        refine wpAnyH_as (s41_.out _ gHA gHB q2 (hi (HA.out.below hb1)) geHA (hi (HB.out.below hb1)) geHB neHAHB) (by kernel_rfl) (by kernel_rfl) (by kernel_rfl)
      · go_simp
        refine hK.out _ _ ?_ (fun q2 => ?_)
        · exact ⟨(id q1).1.below (bl_one _ _), (id q1).2.1.below (bl_one _ _), (id q1).2.2.1.below (bl_one _ _), (id q1).2.2.2.below (bl_one _ _)⟩
        refine wpAnyH_as (s48_.out _ gHA gHB _ q2 (hi (HA.out.below (al_of (id q2).2.2.2 (bl_one _ _)))) geHA (hi (HB.out.below (al_of (id q2).2.2.2 (bl_one _ _)))) geHB (hi ((id q1).2.2.2.var2 (.int .u64 0) (.int .u64 0) 67)) (id q1).2.2.2.sz neHAHB (Nat.ne_of_lt HA.out.lt) (Nat.ne_of_lt HB.out.lt)) (by kernel_rfl) (by kernel_rfl) (by kernel_rfl)
    have s50_ : Hid (∀ (W : World) (gHA : Nat) (gHC : Nat), S0 W → Hid (Var W gHA [.int .u64 0, .int .u64 0]) → w.heap.size + 3 ≤ gHA → Hid (Var W gHC [.int .u64 0, .int .u64 0]) → w.heap.size + 3 ≤ gHC → gHA ≠ gHC → wpAnyH Try.prog .any ops0 Qx S0 10 #[true, true, false, false, true, true, false, false, true, true, false, false, true, false, true, false, false, false] (Act.put (Act.put a0 (some 7) (.pointer (some ⟨gHA, 0, none⟩))) (some 9) (.pointer (some ⟨gHC, 0, none⟩))) W) := by
      clear s0_ s1_ s2_ s3_ s4_ s5_ s6_ s7_ s8_ s9_ s10_ s11_ s12_ s13_ s14_ s15_ s16_ s17_ s18_ s19_ s20_ s21_ s22_ s23_ s24_ s25_ s26_ s27_ s28_ s29_ s30_ s31_ s32_ s33_ s34_ s35_ s36_ s37_ s38_ s39_ s40_ s41_ s43_ s44_ s45_ s46_ s47_ s49_
      refine hi ?_
      intro W1 gHA gHC q1 HA geHA HC geHC neHAHC
      cases e1; cases e2; cases e3; cases e4; cases f22_; cases f23_; cases f26_; cases f27_; cases f30_; cases f31_
      try simp only [Act.put, x5, x6, x7]
      refine r2 (i := 2) (j := 13) rfl (fun K hK => ?_) rfl (fun K hK => ?_)
      · go_simp
        go_at_call 56
        (with_reducible refine (way_l _ _ _ _ Rab.out.1 Rab.out.2 _).mono ?_); rintro e w1 ⟨rfl, hb1⟩
        go_wp2_with fail
        refine hK.out _ _ ?_ (fun q2 => ?_)
        · exact ⟨(id q1).1.below hb1, (id q1).2.1.below hb1, (id q1).2.2.1.below hb1, (id q1).2.2.2.below hb1⟩
        refine wpAnyH_as (s42_.out _ gHA gHC q2 (hi (HA.out.below hb1)) geHA (hi (HC.out.below hb1)) geHC neHAHC) (by kernel_rfl) (by kernel_rfl) (by kernel_rfl)
      · go_simp
        refine hK.out _ _ ?_ (fun q2 => ?_)
        · exact ⟨(id q1).1.below (bl_one _ _), (id q1).2.1.below (bl_one _ _), (id q1).2.2.1.below (bl_one _ _), (id q1).2.2.2.below (bl_one _ _)⟩
        refine wpAnyH_as (s48_.out _ gHA _ gHC q2 (hi (HA.out.below (al_of (id q2).2.2.2 (bl_one _ _)))) geHA (hi ((id q1).2.2.2.var2 (.int .u64 0) (.int .u64 0) 67)) (id q1).2.2.2.sz (hi (HC.out.below (al_of (id q2).2.2.2 (bl_one _ _)))) geHC (Nat.ne_of_lt HA.out.lt) neHAHC (Nat.ne_of_gt HC.out.lt)) (by kernel_rfl) (by kernel_rfl) (by kernel_rfl)
    have s51_ : Hid (∀ (W : World) (gHA : Nat), S0 W → Hid (Var W gHA [.int .u64 0, .int .u64 0]) → w.heap.size + 3 ≤ gHA → wpAnyH Try.prog .any ops0 Qx S0 11 #[true, true, false, false, true, true, false, false, true, true, false, false, true, false, false, false, false, false] (Act.put a0 (some 7) (.pointer (some ⟨gHA, 0, none⟩))) W) := by
      clear s0_ s1_ s2_ s3_ s4_ s5_ s6_ s7_ s8_ s9_ s10_ s11_ s12_ s13_ s14_ s15_ s16_ s17_ s18_ s19_ s20_ s21_ s22_ s23_ s24_ s25_ s26_ s27_ s28_ s29_ s30_ s31_ s32_ s33_ s34_ s35_ s36_ s37_ s38_ s39_ s40_ s41_ s42_ s44_ s45_ s46_ s47_ s48_
      refine hi ?_
      intro W1 gHA q1 HA geHA
      cases e1; cases e2; cases e3; cases e4; cases f22_; cases f23_; cases f26_; cases f27_; cases f30_; cases f31_
      try simp only [Act.put, x5, x6, x7]
      refine wpAnyH_ready (rs := [2, 13, 14]) (by kernel_rfl) (by simp) ?_
      refine (AllReadyH.cons rfl (fun K hK => ?_) (AllReadyH.cons rfl (fun K hK => ?_) (AllReadyH.cons rfl (fun K hK => ?_) AllReadyH.nil)))
      · rw [if_pos (by rfl)]
        go_simp
        go_at_call 56
        (with_reducible refine (way_l _ _ _ _ Rab.out.1 Rab.out.2 _).mono ?_); rintro e w1 ⟨rfl, hb1⟩
        go_wp2_with fail
        refine hK.out _ _ ?_ (fun q2 => ?_)
        · exact ⟨(id q1).1.below hb1, (id q1).2.1.below hb1, (id q1).2.2.1.below hb1, (id q1).2.2.2.below hb1⟩
        refine wpAnyH_as (s43_.out _ gHA q2 (hi (HA.out.below hb1)) geHA) (by kernel_rfl) (by kernel_rfl) (by kernel_rfl)
      · rw [if_pos (by rfl)]
        go_simp
        refine hK.out _ _ ?_ (fun q2 => ?_)
        · exact ⟨(id q1).1.below (bl_one _ _), (id q1).2.1.below (bl_one _ _), (id q1).2.2.1.below (bl_one _ _), (id q1).2.2.2.below (bl_one _ _)⟩
        refine wpAnyH_as (s49_.out _ gHA _ q2 (hi (HA.out.below (al_of (id q2).2.2.2 (bl_one _ _)))) geHA (hi ((id q1).2.2.2.var2 (.int .u64 0) (.int .u64 0) 67)) (id q1).2.2.2.sz (Nat.ne_of_lt HA.out.lt)) (by kernel_rfl) (by kernel_rfl) (by kernel_rfl)
      · rw [if_pos (by rfl)]
        go_simp
        refine hK.out _ _ ?_ (fun q2 => ?_)
        · exact ⟨(id q1).1.below (bl_one _ _), (id q1).2.1.below (bl_one _ _), (id q1).2.2.1.below (bl_one _ _), (id q1).2.2.2.below (bl_one _ _)⟩
        refine wpAnyH_as (s50_.out _ gHA _ q2 (hi (HA.out.below (al_of (id q2).2.2.2 (bl_one _ _)))) geHA (hi ((id q1).2.2.2.var2 (.int .u64 0) (.int .u64 0) 67)) (id q1).2.2.2.sz (Nat.ne_of_lt HA.out.lt)) (by kernel_rfl) (by kernel_rfl) (by kernel_rfl)
    have s52_ : Hid (∀ (W : World) (gHB : Nat) (gHC : Nat), S0 W → Hid (Var W gHB [.int .u64 0, .int .u64 0]) → w.heap.size + 3 ≤ gHB → Hid (Var W gHC [.int .u64 0, .int .u64 0]) → w.heap.size + 3 ≤ gHC → gHB ≠ gHC → wpAnyH Try.prog .any ops0 Qx S0 10 #[true, true, false, false, true, true, false, false, true, true, false, false, false, true, true, false, false, false] (Act.put (Act.put a0 (some 8) (.pointer (some ⟨gHB, 0, none⟩))) (some 9) (.pointer (some ⟨gHC, 0, none⟩))) W) := by
      clear s0_ s1_ s2_ s3_ s4_ s5_ s6_ s7_ s8_ s9_ s10_ s11_ s12_ s13_ s14_ s15_ s16_ s17_ s18_ s19_ s20_ s21_ s22_ s23_ s24_ s25_ s26_ s27_ s28_ s29_ s30_ s31_ s32_ s33_ s34_ s35_ s36_ s37_ s38_ s39_ s40_ s41_ s42_ s43_ s45_ s46_ s47_ s49_ s50_ s51_
      refine hi ?_
      intro W1 gHB gHC q1 HB geHB HC geHC neHBHC
      cases e1; cases e2; cases e3; cases e4; cases f22_; cases f23_; cases f26_; cases f27_; cases f30_; cases f31_
      try simp only [Act.put, x5, x6, x7]
      refine r2 (i := 2) (j := 12) rfl (fun K hK => ?_) rfl (fun K hK => ?_)
      · go_simp
        go_at_call 56
        (with_reducible refine (way_l _ _ _ _ Rab.out.1 Rab.out.2 _).mono ?_); rintro e w1 ⟨rfl, hb1⟩
        go_wp2_with fail
        refine hK.out _ _ ?_ (fun q2 => ?_)
        · exact ⟨(id q1).1.below hb1, (id q1).2.1.below hb1, (id q1).2.2.1.below hb1, (id q1).2.2.2.below hb1⟩
        refine wpAnyH_as (s44_.out _ gHB gHC q2 (hi (HB.out.below hb1)) geHB (hi (HC.out.below hb1)) geHC neHBHC) (by kernel_rfl) (by kernel_rfl) (by kernel_rfl)
      · go_simp
        refine hK.out _ _ ?_ (fun q2 => ?_)
        · exact ⟨(id q1).1.below (bl_one _ _), (id q1).2.1.below (bl_one _ _), (id q1).2.2.1.below (bl_one _ _), (id q1).2.2.2.below (bl_one _ _)⟩
        refine wpAnyH_as (s48_.out _ _ gHB gHC q2 (hi ((id q1).2.2.2.var2 (.int .u64 0) (.int .u64 0) 67)) (id q1).2.2.2.sz (hi (HB.out.below (al_of (id q2).2.2.2 (bl_one _ _)))) geHB (hi (HC.out.below (al_of (id q2).2.2.2 (bl_one _ _)))) geHC (Nat.ne_of_gt HB.out.lt) (Nat.ne_of_gt HC.out.lt) neHBHC) (by kernel_rfl) (by kernel_rfl) (by kernel_rfl)
    have s53_ : Hid (∀ (W : World) (gHB : Nat), S0 W → Hid (Var W gHB [.int .u64 0, .int .u64 0]) → w.heap.size + 3 ≤ gHB → wpAnyH Try.prog .any ops0 Qx S0 11 #[true, true, false, false, true, true, false, false, true, true, false, false, false, true, false, false, false, false] (Act.put a0 (some 8) (.pointer (some ⟨gHB, 0, none⟩))) W) := by
      clear s0_ s1_ s2_ s3_ s4_ s5_ s6_ s7_ s8_ s9_ s10_ s11_ s12_ s13_ s14_ s15_ s16_ s17_ s18_ s19_ s20_ s21_ s22_ s23_ s24_ s25_ s26_ s27_ s28_ s29_ s30_ s31_ s32_ s33_ s34_ s35_ s36_ s37_ s38_ s39_ s40_ s41_ s42_ s43_ s44_ s46_ s47_ s48_ s50_ s51_
      refine hi ?_
      intro W1 gHB q1 HB geHB
      cases e1; cases e2; cases e3; cases e4; cases f22_; cases f23_; cases f26_; cases f27_; cases f30_; cases f31_
      try simp only [Act.put, x5, x6, x7]
      refine wpAnyH_ready (rs := [2, 12, 14]) (by kernel_rfl) (by simp) ?_
      refine (AllReadyH.cons rfl (fun K hK => ?_) (AllReadyH.cons rfl (fun K hK => ?_) (AllReadyH.cons rfl (fun K hK => ?_) AllReadyH.nil)))
      · rw [if_pos (by rfl)]
        go_simp
        go_at_call 56
        (with_reducible refine (way_l _ _ _ _ Rab.out.1 Rab.out.2 _).mono ?_); rintro e w1 ⟨rfl, hb1⟩
        go_wp2_with fail
        refine hK.out _ _ ?_ (fun q2 => ?_)
        · exact ⟨(id q1).1.below hb1, (id q1).2.1.below hb1, (id q1).2.2.1.below hb1, (id q1).2.2.2.below hb1⟩
        refine wpAnyH_as (s45_.out _ gHB q2 (hi (HB.out.below hb1)) geHB) (by kernel_rfl) (by kernel_rfl) (by kernel_rfl)
      · rw [if_pos (by rfl)]
        go_simp
        refine hK.out _ _ ?_ (fun q2 => ?_)
        · exact ⟨(id q1).1.below (bl_one _ _), (id q1).2.1.below (bl_one _ _), (id q1).2.2.1.below (bl_one _ _), (id q1).2.2.2.below (bl_one _ _)⟩
        refine wpAnyH_as (s49_.out _ _ gHB q2 (hi ((id q1).2.2.2.var2 (.int .u64 0) (.int .u64 0) 67)) (id q1).2.2.2.sz (hi (HB.out.below (al_of (id q2).2.2.2 (bl_one _ _)))) geHB (Nat.ne_of_gt HB.out.lt)) (by kernel_rfl) (by kernel_rfl) (by kernel_rfl)
      · rw [if_pos (by rfl)]
        go_simp
        refine hK.out _ _ ?_ (fun q2 => ?_)
        · exact ⟨(id q1).1.below (bl_one _ _), (id q1).2.1.below (bl_one _ _), (id q1).2.2.1.below (bl_one _ _), (id q1).2.2.2.below (bl_one _ _)⟩
        refine wpAnyH_as (s52_.out _ gHB _ q2 (hi (HB.out.below (al_of (id q2).2.2.2 (bl_one _ _)))) geHB (hi ((id q1).2.2.2.var2 (.int .u64 0) (.int .u64 0) 67)) (id q1).2.2.2.sz (Nat.ne_of_lt HB.out.lt)) (by kernel_rfl) (by kernel_rfl) (by kernel_rfl)
    have s54_ : Hid (∀ (W : World) (gHC : Nat), S0 W → Hid (Var W gHC [.int .u64 0, .int .u64 0]) → w.heap.size + 3 ≤ gHC → wpAnyH Try.prog .any ops0 Qx S0 11 #[true, true, false, false, true, true, false, false, true, true, false, false, false, false, true, false, false, false] (Act.put a0 (some 9) (.pointer (some ⟨gHC, 0, none⟩))) W) := by
      clear s0_ s1_ s2_ s3_ s4_ s5_ s6_ s7_ s8_ s9_ s10_ s11_ s12_ s13_ s14_ s15_ s16_ s17_ s18_ s19_ s20_ s21_ s22_ s23_ s24_ s25_ s26_ s27_ s28_ s29_ s30_ s31_ s32_ s33_ s34_ s35_ s36_ s37_ s38_ s39_ s40_ s41_ s42_ s43_ s44_ s45_ s47_ s48_ s49_ s51_ s53_
      refine hi ?_
      intro W1 gHC q1 HC geHC
      cases e1; cases e2; cases e3; cases e4; cases f22_; cases f23_; cases f26_; cases f27_; cases f30_; cases f31_
      try simp only [Act.put, x5, x6, x7]
      refine wpAnyH_ready (rs := [2, 12, 13]) (by kernel_rfl) (by simp) ?_
      refine (AllReadyH.cons rfl (fun K hK => ?_) (AllReadyH.cons rfl (fun K hK => ?_) (AllReadyH.cons rfl (fun K hK => ?_) AllReadyH.nil)))
      · rw [if_pos (by rfl)]
        go_simp
        go_at_call 56
        (with_reducible refine (way_l _ _ _ _ Rab.out.1 Rab.out.2 _).mono ?_); rintro e w1 ⟨rfl, hb1⟩
        go_wp2_with fail
        refine hK.out _ _ ?_ (fun q2 => ?_)
        · exact ⟨(id q1).1.below hb1, (id q1).2.1.below hb1, (id q1).2.2.1.below hb1, (id q1).2.2.2.below hb1⟩
        refine wpAnyH_as (s46_.out _ gHC q2 (hi (HC.out.below hb1)) geHC) (by kernel_rfl) (by kernel_rfl) (by kernel_rfl)
      · rw [if_pos (by rfl)]
        go_simp
        refine hK.out _ _ ?_ (fun q2 => ?_)
        · exact ⟨(id q1).1.below (bl_one _ _), (id q1).2.1.below (bl_one _ _), (id q1).2.2.1.below (bl_one _ _), (id q1).2.2.2.below (bl_one _ _)⟩
        refine wpAnyH_as (s50_.out _ _ gHC q2 (hi ((id q1).2.2.2.var2 (.int .u64 0) (.int .u64 0) 67)) (id q1).2.2.2.sz (hi (HC.out.below (al_of (id q2).2.2.2 (bl_one _ _)))) geHC (Nat.ne_of_gt HC.out.lt)) (by kernel_rfl) (by kernel_rfl) (by kernel_rfl)
      · rw [if_pos (by rfl)]
        go_simp
        refine hK.out _ _ ?_ (fun q2 => ?_)
        · exact ⟨(id q1).1.below (bl_one _ _), (id q1).2.1.below (bl_one _ _), (id q1).2.2.1.below (bl_one _ _), (id q1).2.2.2.below (bl_one _ _)⟩
        refine wpAnyH_as (s52_.out _ _ gHC q2 (hi ((id q1).2.2.2.var2 (.int .u64 0) (.int .u64 0) 67)) (id q1).2.2.2.sz (hi (HC.out.below (al_of (id q2).2.2.2 (bl_one _ _)))) geHC (Nat.ne_of_gt HC.out.lt)) (by kernel_rfl) (by kernel_rfl) (by kernel_rfl)
    clear s0_ s1_ s2_ s3_ s4_ s5_ s6_ s7_ s8_ s9_ s10_ s11_ s12_ s13_ s14_ s15_ s16_ s17_ s18_ s19_ s20_ s21_ s22_ s23_ s24_ s25_ s26_ s27_ s28_ s29_ s30_ s31_ s32_ s33_ s34_ s35_ s36_ s37_ s38_ s39_ s40_ s41_ s42_ s43_ s44_ s45_ s46_ s48_ s49_ s50_ s52_
    cases e1; cases e2; cases e3; cases e4; cases f22_; cases f23_; cases f26_; cases f27_; cases f30_; cases f31_
    refine wpAnyH_ready (rs := [2, 12, 13, 14]) (by kernel_rfl) (by simp) ?_
    refine (AllReadyH.cons rfl (fun K hK => ?_) (AllReadyH.cons rfl (fun K hK => ?_) (AllReadyH.cons rfl (fun K hK => ?_) (AllReadyH.cons rfl (fun K hK => ?_) AllReadyH.nil))))
    · rw [if_pos (by rfl)]
      go_simp
      go_at_call 56
      (with_reducible refine (way_l _ _ _ _ Rab.out.1 Rab.out.2 _).mono ?_); rintro e w1 ⟨rfl, hb1⟩
      go_wp2_with fail
      refine hK.out _ _ ?_ (fun q2 => ?_)
      · exact ⟨(id q1).1.below hb1, (id q1).2.1.below hb1, (id q1).2.2.1.below hb1, (id q1).2.2.2.below hb1⟩
      refine wpAnyH_as (s47_.out _ q2) (by kernel_rfl) (by kernel_rfl) (by kernel_rfl)
    · rw [if_pos (by rfl)]
      go_simp
      refine hK.out _ _ ?_ (fun q2 => ?_)
      · exact ⟨(id q1).1.below (bl_one _ _), (id q1).2.1.below (bl_one _ _), (id q1).2.2.1.below (bl_one _ _), (id q1).2.2.2.below (bl_one _ _)⟩
      refine wpAnyH_as (s51_.out _ _ q2 (hi ((id q1).2.2.2.var2 (.int .u64 0) (.int .u64 0) 67)) (id q1).2.2.2.sz) (by kernel_rfl) (by kernel_rfl) (by kernel_rfl)
    · rw [if_pos (by rfl)]
      go_simp
      refine hK.out _ _ ?_ (fun q2 => ?_)
      · exact ⟨(id q1).1.below (bl_one _ _), (id q1).2.1.below (bl_one _ _), (id q1).2.2.1.below (bl_one _ _), (id q1).2.2.2.below (bl_one _ _)⟩
      refine wpAnyH_as (s53_.out _ _ q2 (hi ((id q1).2.2.2.var2 (.int .u64 0) (.int .u64 0) 67)) (id q1).2.2.2.sz) (by kernel_rfl) (by kernel_rfl) (by kernel_rfl)
    · rw [if_pos (by rfl)]
      go_simp
      refine hK.out _ _ ?_ (fun q2 => ?_)
      · exact ⟨(id q1).1.below (bl_one _ _), (id q1).2.1.below (bl_one _ _), (id q1).2.2.1.below (bl_one _ _), (id q1).2.2.2.below (bl_one _ _)⟩
      refine wpAnyH_as (s54_.out _ _ q2 (hi ((id q1).2.2.2.var2 (.int .u64 0) (.int .u64 0) 67)) (id q1).2.2.2.sz) (by kernel_rfl) (by kernel_rfl) (by kernel_rfl)
  case rest =>
  obtain ⟨g1, g2, g3, rfl, rfl, rfl, ⟨n1, n2, n3, n4, n5, n6⟩, v1, v2, v3, hS0⟩ := hcut
  generalize sqZ a b = p at *
  generalize sqZ b c = q at *
  generalize sqZ c a = r at *
  have HS1 : Hid ((fun W => Var W (w.heap.size) [.int .i64 a.x, .int .i64 a.y] ∧ Var W (w.heap.size + 1) [.int .i64 b.x, .int .i64 b.y] ∧ Var W (w.heap.size + 1 + 1) [.int .i64 c.x, .int .i64 c.y] ∧ Var W (g1) [.int .u64 (LH (p)), .int .u64 (LL (p))] ∧ Var W (g2) [.int .u64 (LH (q)), .int .u64 (LL (q))] ∧ Var W (g3) [.int .u64 (LH (r)), .int .u64 (LL (r))] ∧ Grew w 3 W) _) := ⟨hS0.1, hS0.2.1, hS0.2.2.1, v1, v2, v3, hS0.2.2.2⟩
  clear hS0 v1 v2 v3 HS0
  go_upto_region 4 with (fail)
  go_cut [10] (fun pd W => ∃ g4 : Nat, pd = .pointer (some ⟨g4, 0, none⟩) ∧ (w.heap.size + 3 ≤ g4 ∧ g1 ≠ g4 ∧ g2 ≠ g4 ∧ g3 ≠ g4) ∧ Var W (g4) [.int .u64 (LH (crossZ a b c)), .int .u64 (LL (crossZ a b c))] ∧ (fun W => Var W (w.heap.size) [.int .i64 a.x, .int .i64 a.y] ∧ Var W (w.heap.size + 1) [.int .i64 b.x, .int .i64 b.y] ∧ Var W (w.heap.size + 1 + 1) [.int .i64 c.x, .int .i64 c.y] ∧ Var W (g1) [.int .u64 (LH (p)), .int .u64 (LL (p))] ∧ Var W (g2) [.int .u64 (LH (q)), .int .u64 (LL (q))] ∧ Var W (g3) [.int .u64 (LH (r)), .int .u64 (LL (r))] ∧ Grew w 3 W) W)
  case first =>
    clear HZ HR hp hq hrr hz
    refine wp_region_held_drew (S := fun W => Var W (w.heap.size) [.int .i64 a.x, .int .i64 a.y] ∧ Var W (w.heap.size + 1) [.int .i64 b.x, .int .i64 b.y] ∧ Var W (w.heap.size + 1 + 1) [.int .i64 c.x, .int .i64 c.y] ∧ Var W (g1) [.int .u64 (LH (p)), .int .u64 (LL (p))] ∧ Var W (g2) [.int .u64 (LH (q)), .int .u64 (LL (q))] ∧ Var W (g3) [.int .u64 (LH (r)), .int .u64 (LL (r))] ∧ Grew w 3 W) (by kernel_rfl) ?_ (fun q1 => ?_)
    · exact ⟨HS1.out.1.below (bel_drew _), HS1.out.2.1.below (bel_drew _), HS1.out.2.2.1.below (bel_drew _), HS1.out.2.2.2.1.below (bel_drew _), HS1.out.2.2.2.2.1.below (bel_drew _), HS1.out.2.2.2.2.2.1.below (bel_drew _), HS1.out.2.2.2.2.2.2.below (bel_drew _)⟩
    revert q1
    generalize World.drew _ = W1
    intro q1
    refine tk (i := 0) (v := ?_) rfl (Or.inl ⟨by rfl, ?_⟩) ?_
    rotate_left
    · intro Wq hSw
      obtain ⟨k0, k1⟩ := (id hSw).1.two
      clear hSw
      go_simp
      all_goals (with_reducible rfl)
    try simp only [Act.put, x2, x4, x5, x6, x7]
    refine tk (i := 1) (v := ?_) rfl (Or.inl ⟨by rfl, ?_⟩) ?_
    rotate_left
    · intro Wq hSw
      obtain ⟨k0, k1⟩ := (id hSw).2.1.two
      clear hSw
      go_simp
      all_goals (with_reducible rfl)
    try simp only [Act.put, x2, x3, x4, x5, x6, x7]
    refine tk (i := 3) (v := ?_) rfl (Or.inl ⟨by rfl, ?_⟩) ?_
    rotate_left
    · intro Wq hSw
      obtain ⟨k0, k1⟩ := (id hSw).1.two
      clear hSw
      go_simp
      all_goals (with_reducible rfl)
    try simp only [Act.put, x2, x3, x4, x5, x6, x7]
    refine tk (i := 4) (v := ?_) rfl (Or.inl ⟨by rfl, ?_⟩) ?_
    rotate_left
    · intro Wq hSw
      obtain ⟨k0, k1⟩ := (id hSw).2.2.1.two
      clear hSw
      go_simp
      all_goals (with_reducible rfl)
    try simp only [Act.put, x2, x3, x4, x5, x6, x7]
    refine wpAnyH_named (fun ops0 Qx a0 S0 e1 e2 e3 e4 => ?_)
    obtain ⟨v34_, f34_⟩ : ∃ v : Value, .agg #[.int .i64 (b.x - a.x), .int .i64 (b.y - a.y)] = v := ⟨_, rfl⟩
    obtain ⟨v37_, f37_⟩ : ∃ v : Value, .agg #[.int .i64 (c.x - a.x), .int .i64 (c.y - a.y)] = v := ⟨_, rfl⟩
    obtain ⟨v38_, f38_⟩ : ∃ v : Value, .agg #[.int .u64 (LH ((b.x - a.x) * (c.y - a.y) - (b.y - a.y) * (c.x - a.x))), .int .u64 (LL ((b.x - a.x) * (c.y - a.y) - (b.y - a.y) * (c.x - a.x)))] = v := ⟨_, rfl⟩
    have s0_ : Hid (∀ (W : World) (gHD : Nat), S0 W → g1 ≠ gHD → g2 ≠ gHD → g3 ≠ gHD → Hid (Var W gHD [.int .u64 0, .int .u64 0]) → w.heap.size + 3 ≤ gHD → wpAnyH Try.prog .any ops0 Qx S0 1 #[true, true, true, true, true, true, true, true, false] (Act.put (Act.put (Act.put (Act.put a0 (some 34) v34_) (some 37) v37_) (some 38) v38_) (some 10) (.pointer (some ⟨gHD, 0, none⟩))) W) := by
      refine hi ?_
      intro W1 gHD q1 ne_7_HD ne_8_HD ne_9_HD HD geHD
      cases e1; cases e2; cases e3; cases e4; cases f34_; cases f37_; cases f38_
      try simp only [Act.put, x5, x6, x7]
      refine r1 (i := 8) rfl (fun K hK => ?_)
      obtain ⟨k0, k1⟩ := HD.out.two
      obtain ⟨f0, f1⟩ := HD.out.free2
      go_simp
      refine hK.out _ _ ?_ (fun q2 => ?_)
      · exact ⟨(((id q1).1.far (by dsimp only; omega) _).far (by dsimp only; omega) _), (((id q1).2.1.far (by dsimp only; omega) _).far (by dsimp only; omega) _), (((id q1).2.2.1.far (by dsimp only; omega) _).far (by dsimp only; omega) _), (((id q1).2.2.2.1.far (by dsimp only; omega) _).far (by dsimp only; omega) _), (((id q1).2.2.2.2.1.far (by dsimp only; omega) _).far (by dsimp only; omega) _), (((id q1).2.2.2.2.2.1.far (by dsimp only; omega) _).far (by dsimp only; omega) _), (((id q1).2.2.2.2.2.2.set (by dsimp only; omega) _).set (by dsimp only; omega) _)⟩
      replace HD := hi (HD.out.set2 (.int .u64 (LH ((b.x - a.x) * (c.y - a.y) - (b.y - a.y) * (c.x - a.x)))) (.int .u64 (LL ((b.x - a.x) * (c.y - a.y) - (b.y - a.y) * (c.x - a.x)))))
      clear hK K q1 k0 k1 f0 f1
      have q1 := q2
      clear q2
      try simp only [x5, x6, x7]
      refine wpAnyH_done (by kernel_rfl) ?_ _
      go_wp2_with fail
      go_meet
      case rel => exact ⟨gHD, rfl, ⟨geHD, ne_7_HD, ne_8_HD, ne_9_HD⟩, HD.out, id q1⟩
    have s1_ : Hid (∀ (W : World), S0 W → wpAnyH Try.prog .any ops0 Qx S0 2 #[true, true, true, true, true, true, true, false, false] (Act.put (Act.put (Act.put a0 (some 34) v34_) (some 37) v37_) (some 38) v38_) W) := by
      refine hi ?_
      intro W1  q1 
      cases e1; cases e2; cases e3; cases e4; cases f34_; cases f37_; cases f38_
      try simp only [Act.put, x5, x6, x7]
      refine r1 (i := 7) rfl (fun K hK => ?_)
      · go_simp
        refine hK.out _ _ ?_ (fun q2 => ?_)
        · exact ⟨(id q1).1.below (bl_one _ _), (id q1).2.1.below (bl_one _ _), (id q1).2.2.1.below (bl_one _ _), (id q1).2.2.2.1.below (bl_one _ _), (id q1).2.2.2.2.1.below (bl_one _ _), (id q1).2.2.2.2.2.1.below (bl_one _ _), (id q1).2.2.2.2.2.2.below (bl_one _ _)⟩
        refine wpAnyH_as (s0_.out _ _ q2 (Nat.ne_of_lt (id q1).2.2.2.1.lt) (Nat.ne_of_lt (id q1).2.2.2.2.1.lt) (Nat.ne_of_lt (id q1).2.2.2.2.2.1.lt) (hi ((id q1).2.2.2.2.2.2.var2 (.int .u64 0) (.int .u64 0) 67)) (id q1).2.2.2.2.2.2.sz) (by kernel_rfl) (by kernel_rfl) (by kernel_rfl)
    have s2_ : Hid (∀ (W : World) (gHD : Nat), S0 W → g1 ≠ gHD → g2 ≠ gHD → g3 ≠ gHD → Hid (Var W gHD [.int .u64 0, .int .u64 0]) → w.heap.size + 3 ≤ gHD → wpAnyH Try.prog .any ops0 Qx S0 2 #[true, true, true, true, true, true, false, true, false] (Act.put (Act.put (Act.put a0 (some 34) v34_) (some 37) v37_) (some 10) (.pointer (some ⟨gHD, 0, none⟩))) W) := by
      clear s1_
      refine hi ?_
      intro W1 gHD q1 ne_7_HD ne_8_HD ne_9_HD HD geHD
      cases e1; cases e2; cases e3; cases e4; cases f34_; cases f37_; cases f38_
      try simp only [Act.put, x5, x6, x7]
      refine r1 (i := 6) rfl (fun K hK => ?_)
      · go_simp
        go_at_call 55
        (with_reducible refine (cross_l _ _ _ _ Rab.out.1 Rab.out.2 Rac.out.1 Rac.out.2 _).mono ?_); rintro e w1 ⟨rfl, hb1⟩
        go_wp2_with fail
        refine hK.out _ _ ?_ (fun q2 => ?_)
        · exact ⟨(id q1).1.below hb1, (id q1).2.1.below hb1, (id q1).2.2.1.below hb1, (id q1).2.2.2.1.below hb1, (id q1).2.2.2.2.1.below hb1, (id q1).2.2.2.2.2.1.below hb1, (id q1).2.2.2.2.2.2.below hb1⟩
        refine wpAnyH_as (s0_.out _ gHD q2 ne_7_HD ne_8_HD ne_9_HD (hi (HD.out.below hb1)) geHD) (by kernel_rfl) (by kernel_rfl) (by kernel_rfl)
    have s3_ : Hid (∀ (W : World), S0 W → wpAnyH Try.prog .any ops0 Qx S0 3 #[true, true, true, true, true, true, false, false, false] (Act.put (Act.put a0 (some 34) v34_) (some 37) v37_) W) := by
      clear s0_
      refine hi ?_
      intro W1  q1 
      cases e1; cases e2; cases e3; cases e4; cases f34_; cases f37_; cases f38_
      try simp only [Act.put, x5, x6, x7]
      refine r2 (i := 6) (j := 7) rfl (fun K hK => ?_) rfl (fun K hK => ?_)
      · go_simp
        go_at_call 55
        (with_reducible refine (cross_l _ _ _ _ Rab.out.1 Rab.out.2 Rac.out.1 Rac.out.2 _).mono ?_); rintro e w1 ⟨rfl, hb1⟩
        go_wp2_with fail
        refine hK.out _ _ ?_ (fun q2 => ?_)
        · exact ⟨(id q1).1.below hb1, (id q1).2.1.below hb1, (id q1).2.2.1.below hb1, (id q1).2.2.2.1.below hb1, (id q1).2.2.2.2.1.below hb1, (id q1).2.2.2.2.2.1.below hb1, (id q1).2.2.2.2.2.2.below hb1⟩
        refine wpAnyH_as (s1_.out _ q2) (by kernel_rfl) (by kernel_rfl) (by kernel_rfl)
      · go_simp
        refine hK.out _ _ ?_ (fun q2 => ?_)
        · exact ⟨(id q1).1.below (bl_one _ _), (id q1).2.1.below (bl_one _ _), (id q1).2.2.1.below (bl_one _ _), (id q1).2.2.2.1.below (bl_one _ _), (id q1).2.2.2.2.1.below (bl_one _ _), (id q1).2.2.2.2.2.1.below (bl_one _ _), (id q1).2.2.2.2.2.2.below (bl_one _ _)⟩
        refine wpAnyH_as (s2_.out _ _ q2 (Nat.ne_of_lt (id q1).2.2.2.1.lt) (Nat.ne_of_lt (id q1).2.2.2.2.1.lt) (Nat.ne_of_lt (id q1).2.2.2.2.2.1.lt) (hi ((id q1).2.2.2.2.2.2.var2 (.int .u64 0) (.int .u64 0) 67)) (id q1).2.2.2.2.2.2.sz) (by kernel_rfl) (by kernel_rfl) (by kernel_rfl)
    have s4_ : Hid (∀ (W : World) (gHD : Nat), S0 W → g1 ≠ gHD → g2 ≠ gHD → g3 ≠ gHD → Hid (Var W gHD [.int .u64 0, .int .u64 0]) → w.heap.size + 3 ≤ gHD → wpAnyH Try.prog .any ops0 Qx S0 3 #[true, true, true, true, true, false, false, true, false] (Act.put (Act.put a0 (some 34) v34_) (some 10) (.pointer (some ⟨gHD, 0, none⟩))) W) := by
      clear s0_ s1_ s3_
      refine hi ?_
      intro W1 gHD q1 ne_7_HD ne_8_HD ne_9_HD HD geHD
      cases e1; cases e2; cases e3; cases e4; cases f34_; cases f37_; cases f38_
      try simp only [Act.put, x5, x6, x7]
      refine r1 (i := 5) rfl (fun K hK => ?_)
      · go_simp
        go_at_call 56
        (with_reducible refine (way_l _ _ _ _ Rac.out.1 Rac.out.2 _).mono ?_); rintro e w1 ⟨rfl, hb1⟩
        go_wp2_with fail
        refine hK.out _ _ ?_ (fun q2 => ?_)
        · exact ⟨(id q1).1.below hb1, (id q1).2.1.below hb1, (id q1).2.2.1.below hb1, (id q1).2.2.2.1.below hb1, (id q1).2.2.2.2.1.below hb1, (id q1).2.2.2.2.2.1.below hb1, (id q1).2.2.2.2.2.2.below hb1⟩
        refine wpAnyH_as (s2_.out _ gHD q2 ne_7_HD ne_8_HD ne_9_HD (hi (HD.out.below hb1)) geHD) (by kernel_rfl) (by kernel_rfl) (by kernel_rfl)
    have s5_ : Hid (∀ (W : World), S0 W → wpAnyH Try.prog .any ops0 Qx S0 4 #[true, true, true, true, true, false, false, false, false] (Act.put a0 (some 34) v34_) W) := by
      clear s0_ s1_ s2_
      refine hi ?_
      intro W1  q1 
      cases e1; cases e2; cases e3; cases e4; cases f34_; cases f37_; cases f38_
      try simp only [Act.put, x5, x6, x7]
      refine r2 (i := 5) (j := 7) rfl (fun K hK => ?_) rfl (fun K hK => ?_)
      · go_simp
        go_at_call 56
        (with_reducible refine (way_l _ _ _ _ Rac.out.1 Rac.out.2 _).mono ?_); rintro e w1 ⟨rfl, hb1⟩
        go_wp2_with fail
        refine hK.out _ _ ?_ (fun q2 => ?_)
        · exact ⟨(id q1).1.below hb1, (id q1).2.1.below hb1, (id q1).2.2.1.below hb1, (id q1).2.2.2.1.below hb1, (id q1).2.2.2.2.1.below hb1, (id q1).2.2.2.2.2.1.below hb1, (id q1).2.2.2.2.2.2.below hb1⟩
        refine wpAnyH_as (s3_.out _ q2) (by kernel_rfl) (by kernel_rfl) (by kernel_rfl)
      · go_simp
        refine hK.out _ _ ?_ (fun q2 => ?_)
        · exact ⟨(id q1).1.below (bl_one _ _), (id q1).2.1.below (bl_one _ _), (id q1).2.2.1.below (bl_one _ _), (id q1).2.2.2.1.below (bl_one _ _), (id q1).2.2.2.2.1.below (bl_one _ _), (id q1).2.2.2.2.2.1.below (bl_one _ _), (id q1).2.2.2.2.2.2.below (bl_one _ _)⟩
        refine wpAnyH_as (s4_.out _ _ q2 (Nat.ne_of_lt (id q1).2.2.2.1.lt) (Nat.ne_of_lt (id q1).2.2.2.2.1.lt) (Nat.ne_of_lt (id q1).2.2.2.2.2.1.lt) (hi ((id q1).2.2.2.2.2.2.var2 (.int .u64 0) (.int .u64 0) 67)) (id q1).2.2.2.2.2.2.sz) (by kernel_rfl) (by kernel_rfl) (by kernel_rfl)
    have s6_ : Hid (∀ (W : World) (gHD : Nat), S0 W → g1 ≠ gHD → g2 ≠ gHD → g3 ≠ gHD → Hid (Var W gHD [.int .u64 0, .int .u64 0]) → w.heap.size + 3 ≤ gHD → wpAnyH Try.prog .any ops0 Qx S0 4 #[true, true, false, true, true, false, false, true, false] (Act.put a0 (some 10) (.pointer (some ⟨gHD, 0, none⟩))) W) := by
      clear s0_ s1_ s2_ s3_ s5_
      refine hi ?_
      intro W1 gHD q1 ne_7_HD ne_8_HD ne_9_HD HD geHD
      cases e1; cases e2; cases e3; cases e4; cases f34_; cases f37_; cases f38_
      try simp only [Act.put, x5, x6, x7]
      refine r1 (i := 2) rfl (fun K hK => ?_)
      · go_simp
        go_at_call 56
        (with_reducible refine (way_l _ _ _ _ Rab.out.1 Rab.out.2 _).mono ?_); rintro e w1 ⟨rfl, hb1⟩
        go_wp2_with fail
        refine hK.out _ _ ?_ (fun q2 => ?_)
        · exact ⟨(id q1).1.below hb1, (id q1).2.1.below hb1, (id q1).2.2.1.below hb1, (id q1).2.2.2.1.below hb1, (id q1).2.2.2.2.1.below hb1, (id q1).2.2.2.2.2.1.below hb1, (id q1).2.2.2.2.2.2.below hb1⟩
        refine wpAnyH_as (s4_.out _ gHD q2 ne_7_HD ne_8_HD ne_9_HD (hi (HD.out.below hb1)) geHD) (by kernel_rfl) (by kernel_rfl) (by kernel_rfl)
    clear s0_ s1_ s2_ s3_ s4_
    cases e1; cases e2; cases e3; cases e4; cases f34_; cases f37_; cases f38_
    refine r2 (i := 2) (j := 7) rfl (fun K hK => ?_) rfl (fun K hK => ?_)
    · go_simp
      go_at_call 56
      (with_reducible refine (way_l _ _ _ _ Rab.out.1 Rab.out.2 _).mono ?_); rintro e w1 ⟨rfl, hb1⟩
      go_wp2_with fail
      refine hK.out _ _ ?_ (fun q2 => ?_)
      · exact ⟨(id q1).1.below hb1, (id q1).2.1.below hb1, (id q1).2.2.1.below hb1, (id q1).2.2.2.1.below hb1, (id q1).2.2.2.2.1.below hb1, (id q1).2.2.2.2.2.1.below hb1, (id q1).2.2.2.2.2.2.below hb1⟩
      refine wpAnyH_as (s5_.out _ q2) (by kernel_rfl) (by kernel_rfl) (by kernel_rfl)
    · go_simp
      refine hK.out _ _ ?_ (fun q2 => ?_)
      · exact ⟨(id q1).1.below (bl_one _ _), (id q1).2.1.below (bl_one _ _), (id q1).2.2.1.below (bl_one _ _), (id q1).2.2.2.1.below (bl_one _ _), (id q1).2.2.2.2.1.below (bl_one _ _), (id q1).2.2.2.2.2.1.below (bl_one _ _), (id q1).2.2.2.2.2.2.below (bl_one _ _)⟩
      refine wpAnyH_as (s6_.out _ _ q2 (Nat.ne_of_lt (id q1).2.2.2.1.lt) (Nat.ne_of_lt (id q1).2.2.2.2.1.lt) (Nat.ne_of_lt (id q1).2.2.2.2.2.1.lt) (hi ((id q1).2.2.2.2.2.2.var2 (.int .u64 0) (.int .u64 0) 67)) (id q1).2.2.2.2.2.2.sz) (by kernel_rfl) (by kernel_rfl) (by kernel_rfl)
  case rest =>
  obtain ⟨g4, rfl, ⟨n7, n8, n9, n10⟩, v4, hS1⟩ := hcut
  generalize crossZ a b c = z at *
  have HS2 : Hid ((fun W => Var W (g1) [.int .u64 (LH (p)), .int .u64 (LL (p))] ∧ Var W (g2) [.int .u64 (LH (q)), .int .u64 (LL (q))] ∧ Var W (g3) [.int .u64 (LH (r)), .int .u64 (LL (r))] ∧ Var W (g4) [.int .u64 (LH (z)), .int .u64 (LL (z))] ∧ Grew w 3 W) _) := ⟨hS1.2.2.2.1, hS1.2.2.2.2.1, hS1.2.2.2.2.2.1, v4, hS1.2.2.2.2.2.2⟩
  have Bp := hi (hp.b127 (by decide))
  have Bq := hi (hq.b127 (by decide))
  have Br := hi (hrr.b127 (by decide))
  have Bz := hi (hz.b127 (by decide))
  have Bpq := hi (b127_bw Bp.out Bq.out).2.2
  have Bqr := hi (b127_bw Bq.out Br.out).2.2
  have Brp := hi (b127_bw Br.out Bp.out).2.2
  have Bzz := hi (b127_bw Bz.out Bz.out).2.2
  have Bz8 : Hid (BW (z * z * 8)) := ((hz.mul hz).mul (show Ab 8 8 by unfold Ab; omega)).bw (by decide)
  have BM := hi (maxZ_bw Bqr.out Brp.out)
  have BMM := hi (maxZ_bw Bpq.out BM.out)
  clear hS1 v4 HS1 hp hq hrr hz Rab Rbc Rca Rac
  go_upto_region 5 with (fail)
  go_cut [11] (fun pm W => ∃ g5 : Nat, pm = .pointer (some ⟨g5, 0, none⟩) ∧ (w.heap.size + 3 ≤ g5 ∧ g4 ≠ g5) ∧ Var W (g5) [.bool (QM (maxZ (p * q) (maxZ (q * r) (r * p)))), .int .u64 (Q0 (maxZ (p * q) (maxZ (q * r) (r * p)))), .int .u64 (Q1 (maxZ (p * q) (maxZ (q * r) (r * p)))), .int .u64 (Q2 (maxZ (p * q) (maxZ (q * r) (r * p)))), .int .u64 (Q3 (maxZ (p * q) (maxZ (q * r) (r * p))))] ∧ Var W (g4) [.int .u64 (LH (z)), .int .u64 (LL (z))] ∧ Grew w 3 W)
  case first =>
    clear HZ HR
    refine wp_region_held_drew (S := fun W => Var W (g1) [.int .u64 (LH (p)), .int .u64 (LL (p))] ∧ Var W (g2) [.int .u64 (LH (q)), .int .u64 (LL (q))] ∧ Var W (g3) [.int .u64 (LH (r)), .int .u64 (LL (r))] ∧ Var W (g4) [.int .u64 (LH (z)), .int .u64 (LL (z))] ∧ Grew w 3 W) (by kernel_rfl) ?_ (fun q1 => ?_)
    · exact ⟨HS2.out.1.below (bel_drew _), HS2.out.2.1.below (bel_drew _), HS2.out.2.2.1.below (bel_drew _), HS2.out.2.2.2.1.below (bel_drew _), HS2.out.2.2.2.2.below (bel_drew _)⟩
    revert q1
    generalize World.drew _ = W1
    intro q1
    refine tk (i := 0) (v := ?_) rfl (Or.inl ⟨by rfl, ?_⟩) ?_
    rotate_left
    · intro Wq hSw
      obtain ⟨k0, k1⟩ := (id hSw).1.two
      clear hSw
      go_simp
      all_goals (with_reducible rfl)
    try simp only [Act.put, x2, x4, x5, x6, x7]
    refine tk (i := 1) (v := ?_) rfl (Or.inl ⟨by rfl, ?_⟩) ?_
    rotate_left
    · intro Wq hSw
      obtain ⟨k0, k1⟩ := (id hSw).2.1.two
      clear hSw
      go_simp
      all_goals (with_reducible rfl)
    try simp only [Act.put, x2, x3, x4, x5, x6, x7]
    refine tk (i := 3) (v := ?_) rfl (Or.inl ⟨by rfl, ?_⟩) ?_
    rotate_left
    · intro Wq hSw
      obtain ⟨k0, k1⟩ := (id hSw).2.1.two
      clear hSw
      go_simp
      all_goals (with_reducible rfl)
    try simp only [Act.put, x2, x3, x4, x5, x6, x7]
    refine tk (i := 4) (v := ?_) rfl (Or.inl ⟨by rfl, ?_⟩) ?_
    rotate_left
    · intro Wq hSw
      obtain ⟨k0, k1⟩ := (id hSw).2.2.1.two
      clear hSw
      go_simp
      all_goals (with_reducible rfl)
    try simp only [Act.put, x2, x3, x4, x5, x6, x7]
    refine tk (i := 6) (v := ?_) rfl (Or.inl ⟨by rfl, ?_⟩) ?_
    rotate_left
    · intro Wq hSw
      obtain ⟨k0, k1⟩ := (id hSw).2.2.1.two
      clear hSw
      go_simp
      all_goals (with_reducible rfl)
    try simp only [Act.put, x2, x3, x4, x5, x6, x7]
    refine tk (i := 7) (v := ?_) rfl (Or.inl ⟨by rfl, ?_⟩) ?_
    rotate_left
    · intro Wq hSw
      obtain ⟨k0, k1⟩ := (id hSw).1.two
      clear hSw
      go_simp
      all_goals (with_reducible rfl)
    try simp only [Act.put, x2, x3, x4, x5, x6, x7]
    refine wpAnyH_named (fun ops0 Qx a0 S0 e1 e2 e3 e4 => ?_)
    obtain ⟨v41_, f41_⟩ : ∃ v : Value, .agg #[.bool (QM (p * q)), .int .u64 (Q0 (p * q)), .int .u64 (Q1 (p * q)), .int .u64 (Q2 (p * q)), .int .u64 (Q3 (p * q))] = v := ⟨_, rfl⟩
    obtain ⟨v44_, f44_⟩ : ∃ v : Value, .agg #[.bool (QM (q * r)), .int .u64 (Q0 (q * r)), .int .u64 (Q1 (q * r)), .int .u64 (Q2 (q * r)), .int .u64 (Q3 (q * r))] = v := ⟨_, rfl⟩
    obtain ⟨v47_, f47_⟩ : ∃ v : Value, .agg #[.bool (QM (r * p)), .int .u64 (Q0 (r * p)), .int .u64 (Q1 (r * p)), .int .u64 (Q2 (r * p)), .int .u64 (Q3 (r * p))] = v := ⟨_, rfl⟩
    obtain ⟨v48_, f48_⟩ : ∃ v : Value, .agg #[.bool (QM (maxZ (q * r) (r * p))), .int .u64 (Q0 (maxZ (q * r) (r * p))), .int .u64 (Q1 (maxZ (q * r) (r * p))), .int .u64 (Q2 (maxZ (q * r) (r * p))), .int .u64 (Q3 (maxZ (q * r) (r * p)))] = v := ⟨_, rfl⟩
    obtain ⟨v49_, f49_⟩ : ∃ v : Value, .agg #[.bool (QM (maxZ (p * q) (maxZ (q * r) (r * p)))), .int .u64 (Q0 (maxZ (p * q) (maxZ (q * r) (r * p)))), .int .u64 (Q1 (maxZ (p * q) (maxZ (q * r) (r * p)))), .int .u64 (Q2 (maxZ (p * q) (maxZ (q * r) (r * p)))), .int .u64 (Q3 (maxZ (p * q) (maxZ (q * r) (r * p))))] = v := ⟨_, rfl⟩
    have s0_ : Hid (∀ (W : World) (gHM : Nat), S0 W → g1 ≠ gHM → g2 ≠ gHM → g3 ≠ gHM → g4 ≠ gHM → Hid (Var W gHM [.bool false, .int .u64 0, .int .u64 0, .int .u64 0, .int .u64 0]) → w.heap.size + 3 ≤ gHM → wpAnyH Try.prog .any ops0 Qx S0 1 #[true, true, true, true, true, true, true, true, true, true, true, true, false] (Act.put (Act.put (Act.put (Act.put (Act.put (Act.put a0 (some 41) v41_) (some 44) v44_) (some 47) v47_) (some 48) v48_) (some 49) v49_) (some 11) (.pointer (some ⟨gHM, 0, none⟩))) W) := by
      refine hi ?_
      intro W1 gHM q1 ne_7_HM ne_8_HM ne_9_HM ne_10_HM HM geHM
      cases e1; cases e2; cases e3; cases e4; cases f41_; cases f44_; cases f47_; cases f48_; cases f49_
      try simp only [Act.put, x5, x6, x7]
      refine r1 (i := 12) rfl (fun K hK => ?_)
      obtain ⟨k0, k1, k2, k3, k4⟩ := HM.out.five
      obtain ⟨f0, f1, f2, f3, f4⟩ := HM.out.free5
      go_simp
      refine hK.out _ _ ?_ (fun q2 => ?_)
      · exact ⟨((((((id q1).1.far (by dsimp only; omega) _).far (by dsimp only; omega) _).far (by dsimp only; omega) _).far (by dsimp only; omega) _).far (by dsimp only; omega) _), ((((((id q1).2.1.far (by dsimp only; omega) _).far (by dsimp only; omega) _).far (by dsimp only; omega) _).far (by dsimp only; omega) _).far (by dsimp only; omega) _), ((((((id q1).2.2.1.far (by dsimp only; omega) _).far (by dsimp only; omega) _).far (by dsimp only; omega) _).far (by dsimp only; omega) _).far (by dsimp only; omega) _), ((((((id q1).2.2.2.1.far (by dsimp only; omega) _).far (by dsimp only; omega) _).far (by dsimp only; omega) _).far (by dsimp only; omega) _).far (by dsimp only; omega) _), ((((((id q1).2.2.2.2.set (by dsimp only; omega) _).set (by dsimp only; omega) _).set (by dsimp only; omega) _).set (by dsimp only; omega) _).set (by dsimp only; omega) _)⟩
      replace HM := hi (HM.out.set5 (.bool (QM (maxZ (p * q) (maxZ (q * r) (r * p))))) (.int .u64 (Q0 (maxZ (p * q) (maxZ (q * r) (r * p))))) (.int .u64 (Q1 (maxZ (p * q) (maxZ (q * r) (r * p))))) (.int .u64 (Q2 (maxZ (p * q) (maxZ (q * r) (r * p))))) (.int .u64 (Q3 (maxZ (p * q) (maxZ (q * r) (r * p))))))
      clear hK K q1 k0 k1 k2 k3 k4 f0 f1 f2 f3 f4
      have q1 := q2
      clear q2
      try simp only [x5, x6, x7]
      refine wpAnyH_done (by kernel_rfl) ?_ _
      go_wp2_with fail
      go_meet
      case rel => exact ⟨gHM, rfl, ⟨geHM, ne_10_HM⟩, HM.out, (id q1).2.2.2.1, (id q1).2.2.2.2⟩
    have s1_ : Hid (∀ (W : World), S0 W → wpAnyH Try.prog .any ops0 Qx S0 2 #[true, true, true, true, true, true, true, true, true, true, true, false, false] (Act.put (Act.put (Act.put (Act.put (Act.put a0 (some 41) v41_) (some 44) v44_) (some 47) v47_) (some 48) v48_) (some 49) v49_) W) := by
      refine hi ?_
      intro W1  q1 
      cases e1; cases e2; cases e3; cases e4; cases f41_; cases f44_; cases f47_; cases f48_; cases f49_
      try simp only [Act.put, x5, x6, x7]
      refine r1 (i := 11) rfl (fun K hK => ?_)
      · go_simp
        refine hK.out _ _ ?_ (fun q2 => ?_)
        · exact ⟨(id q1).1.below (bl_one _ _), (id q1).2.1.below (bl_one _ _), (id q1).2.2.1.below (bl_one _ _), (id q1).2.2.2.1.below (bl_one _ _), (id q1).2.2.2.2.below (bl_one _ _)⟩
        refine wpAnyH_as (s0_.out _ _ q2 (Nat.ne_of_lt (id q1).1.lt) (Nat.ne_of_lt (id q1).2.1.lt) (Nat.ne_of_lt (id q1).2.2.1.lt) (Nat.ne_of_lt (id q1).2.2.2.1.lt) (hi ((id q1).2.2.2.2.var5 (.bool false) (.int .u64 0) (.int .u64 0) (.int .u64 0) (.int .u64 0) 73)) (id q1).2.2.2.2.sz) (by kernel_rfl) (by kernel_rfl) (by kernel_rfl)
    have s2_ : Hid (∀ (W : World) (gHM : Nat), S0 W → g1 ≠ gHM → g2 ≠ gHM → g3 ≠ gHM → g4 ≠ gHM → Hid (Var W gHM [.bool false, .int .u64 0, .int .u64 0, .int .u64 0, .int .u64 0]) → w.heap.size + 3 ≤ gHM → wpAnyH Try.prog .any ops0 Qx S0 2 #[true, true, true, true, true, true, true, true, true, true, false, true, false] (Act.put (Act.put (Act.put (Act.put (Act.put a0 (some 41) v41_) (some 44) v44_) (some 47) v47_) (some 48) v48_) (some 11) (.pointer (some ⟨gHM, 0, none⟩))) W) := by
      clear s1_
      refine hi ?_
      intro W1 gHM q1 ne_7_HM ne_8_HM ne_9_HM ne_10_HM HM geHM
      cases e1; cases e2; cases e3; cases e4; cases f41_; cases f44_; cases f47_; cases f48_; cases f49_
      try simp only [Act.put, x5, x6, x7]
      refine r1 (i := 10) rfl (fun K hK => ?_)
      · go_simp
        go_at_call 65
        (with_reducible refine (greater_l _ _ Bpq.out BM.out _).mono ?_); rintro e w1 ⟨rfl, hb1⟩
        go_wp2_with fail
        refine hK.out _ _ ?_ (fun q2 => ?_)
        · exact ⟨(id q1).1.below hb1, (id q1).2.1.below hb1, (id q1).2.2.1.below hb1, (id q1).2.2.2.1.below hb1, (id q1).2.2.2.2.below hb1⟩
        refine wpAnyH_as (s0_.out _ gHM q2 ne_7_HM ne_8_HM ne_9_HM ne_10_HM (hi (HM.out.below hb1)) geHM) (by kernel_rfl) (by kernel_rfl) (by kernel_rfl)
    have s3_ : Hid (∀ (W : World), S0 W → wpAnyH Try.prog .any ops0 Qx S0 3 #[true, true, true, true, true, true, true, true, true, true, false, false, false] (Act.put (Act.put (Act.put (Act.put a0 (some 41) v41_) (some 44) v44_) (some 47) v47_) (some 48) v48_) W) := by
      clear s0_
      refine hi ?_
      intro W1  q1 
      cases e1; cases e2; cases e3; cases e4; cases f41_; cases f44_; cases f47_; cases f48_; cases f49_
      try simp only [Act.put, x5, x6, x7]
      refine r2 (i := 10) (j := 11) rfl (fun K hK => ?_) rfl (fun K hK => ?_)
      · go_simp
        go_at_call 65
        (with_reducible refine (greater_l _ _ Bpq.out BM.out _).mono ?_); rintro e w1 ⟨rfl, hb1⟩
        go_wp2_with fail
        refine hK.out _ _ ?_ (fun q2 => ?_)
        · exact ⟨(id q1).1.below hb1, (id q1).2.1.below hb1, (id q1).2.2.1.below hb1, (id q1).2.2.2.1.below hb1, (id q1).2.2.2.2.below hb1⟩
        refine wpAnyH_as (s1_.out _ q2) (by kernel_rfl) (by kernel_rfl) (by kernel_rfl)
      · go_simp
        refine hK.out _ _ ?_ (fun q2 => ?_)
        · exact ⟨(id q1).1.below (bl_one _ _), (id q1).2.1.below (bl_one _ _), (id q1).2.2.1.below (bl_one _ _), (id q1).2.2.2.1.below (bl_one _ _), (id q1).2.2.2.2.below (bl_one _ _)⟩
        refine wpAnyH_as (s2_.out _ _ q2 (Nat.ne_of_lt (id q1).1.lt) (Nat.ne_of_lt (id q1).2.1.lt) (Nat.ne_of_lt (id q1).2.2.1.lt) (Nat.ne_of_lt (id q1).2.2.2.1.lt) (hi ((id q1).2.2.2.2.var5 (.bool false) (.int .u64 0) (.int .u64 0) (.int .u64 0) (.int .u64 0) 73)) (id q1).2.2.2.2.sz) (by kernel_rfl) (by kernel_rfl) (by kernel_rfl)
    have s4_ : Hid (∀ (W : World) (gHM : Nat), S0 W → g1 ≠ gHM → g2 ≠ gHM → g3 ≠ gHM → g4 ≠ gHM → Hid (Var W gHM [.bool false, .int .u64 0, .int .u64 0, .int .u64 0, .int .u64 0]) → w.heap.size + 3 ≤ gHM → wpAnyH Try.prog .any ops0 Qx S0 3 #[true, true, true, true, true, true, true, true, true, false, false, true, false] (Act.put (Act.put (Act.put (Act.put a0 (some 41) v41_) (some 44) v44_) (some 47) v47_) (some 11) (.pointer (some ⟨gHM, 0, none⟩))) W) := by
      clear s0_ s1_ s3_
      refine hi ?_
      intro W1 gHM q1 ne_7_HM ne_8_HM ne_9_HM ne_10_HM HM geHM
      cases e1; cases e2; cases e3; cases e4; cases f41_; cases f44_; cases f47_; cases f48_; cases f49_
      try simp only [Act.put, x5, x6, x7]
      refine r1 (i := 9) rfl (fun K hK => ?_)
      · go_simp
        go_at_call 65
        (with_reducible refine (greater_l _ _ Bqr.out Brp.out _).mono ?_); rintro e w1 ⟨rfl, hb1⟩
        go_wp2_with fail
        refine hK.out _ _ ?_ (fun q2 => ?_)
        · exact ⟨(id q1).1.below hb1, (id q1).2.1.below hb1, (id q1).2.2.1.below hb1, (id q1).2.2.2.1.below hb1, (id q1).2.2.2.2.below hb1⟩
        refine wpAnyH_as (s2_.out _ gHM q2 ne_7_HM ne_8_HM ne_9_HM ne_10_HM (hi (HM.out.below hb1)) geHM) (by kernel_rfl) (by kernel_rfl) (by kernel_rfl)
    have s5_ : Hid (∀ (W : World), S0 W → wpAnyH Try.prog .any ops0 Qx S0 4 #[true, true, true, true, true, true, true, true, true, false, false, false, false] (Act.put (Act.put (Act.put a0 (some 41) v41_) (some 44) v44_) (some 47) v47_) W) := by
      clear s0_ s1_ s2_
      refine hi ?_
      intro W1  q1 
      cases e1; cases e2; cases e3; cases e4; cases f41_; cases f44_; cases f47_; cases f48_; cases f49_
      try simp only [Act.put, x5, x6, x7]
      refine r2 (i := 9) (j := 11) rfl (fun K hK => ?_) rfl (fun K hK => ?_)
      · go_simp
        go_at_call 65
        (with_reducible refine (greater_l _ _ Bqr.out Brp.out _).mono ?_); rintro e w1 ⟨rfl, hb1⟩
        go_wp2_with fail
        refine hK.out _ _ ?_ (fun q2 => ?_)
        · exact ⟨(id q1).1.below hb1, (id q1).2.1.below hb1, (id q1).2.2.1.below hb1, (id q1).2.2.2.1.below hb1, (id q1).2.2.2.2.below hb1⟩
        refine wpAnyH_as (s3_.out _ q2) (by kernel_rfl) (by kernel_rfl) (by kernel_rfl)
      · go_simp
        refine hK.out _ _ ?_ (fun q2 => ?_)
        · exact ⟨(id q1).1.below (bl_one _ _), (id q1).2.1.below (bl_one _ _), (id q1).2.2.1.below (bl_one _ _), (id q1).2.2.2.1.below (bl_one _ _), (id q1).2.2.2.2.below (bl_one _ _)⟩
        refine wpAnyH_as (s4_.out _ _ q2 (Nat.ne_of_lt (id q1).1.lt) (Nat.ne_of_lt (id q1).2.1.lt) (Nat.ne_of_lt (id q1).2.2.1.lt) (Nat.ne_of_lt (id q1).2.2.2.1.lt) (hi ((id q1).2.2.2.2.var5 (.bool false) (.int .u64 0) (.int .u64 0) (.int .u64 0) (.int .u64 0) 73)) (id q1).2.2.2.2.sz) (by kernel_rfl) (by kernel_rfl) (by kernel_rfl)
    have s6_ : Hid (∀ (W : World) (gHM : Nat), S0 W → g1 ≠ gHM → g2 ≠ gHM → g3 ≠ gHM → g4 ≠ gHM → Hid (Var W gHM [.bool false, .int .u64 0, .int .u64 0, .int .u64 0, .int .u64 0]) → w.heap.size + 3 ≤ gHM → wpAnyH Try.prog .any ops0 Qx S0 4 #[true, true, true, true, true, true, true, true, false, false, false, true, false] (Act.put (Act.put (Act.put a0 (some 41) v41_) (some 44) v44_) (some 11) (.pointer (some ⟨gHM, 0, none⟩))) W) := by
      clear s0_ s1_ s2_ s3_ s5_
      refine hi ?_
      intro W1 gHM q1 ne_7_HM ne_8_HM ne_9_HM ne_10_HM HM geHM
      cases e1; cases e2; cases e3; cases e4; cases f41_; cases f44_; cases f47_; cases f48_; cases f49_
      try simp only [Act.put, x5, x6, x7]
      refine r1 (i := 8) rfl (fun K hK => ?_)
      · go_simp
        go_at_call 66
        (with_reducible refine (product_l _ _ Br.out Bp.out _).mono ?_); rintro e w1 ⟨rfl, hb1⟩
        go_wp2_with fail
        refine hK.out _ _ ?_ (fun q2 => ?_)
        · exact ⟨(id q1).1.below hb1, (id q1).2.1.below hb1, (id q1).2.2.1.below hb1, (id q1).2.2.2.1.below hb1, (id q1).2.2.2.2.below hb1⟩
        refine wpAnyH_as (s4_.out _ gHM q2 ne_7_HM ne_8_HM ne_9_HM ne_10_HM (hi (HM.out.below hb1)) geHM) (by kernel_rfl) (by kernel_rfl) (by kernel_rfl)
    have s7_ : Hid (∀ (W : World), S0 W → wpAnyH Try.prog .any ops0 Qx S0 5 #[true, true, true, true, true, true, true, true, false, false, false, false, false] (Act.put (Act.put a0 (some 41) v41_) (some 44) v44_) W) := by
      clear s0_ s1_ s2_ s3_ s4_
      refine hi ?_
      intro W1  q1 
      cases e1; cases e2; cases e3; cases e4; cases f41_; cases f44_; cases f47_; cases f48_; cases f49_
      try simp only [Act.put, x5, x6, x7]
      refine r2 (i := 8) (j := 11) rfl (fun K hK => ?_) rfl (fun K hK => ?_)
      · go_simp
        go_at_call 66
        (with_reducible refine (product_l _ _ Br.out Bp.out _).mono ?_); rintro e w1 ⟨rfl, hb1⟩
        go_wp2_with fail
        refine hK.out _ _ ?_ (fun q2 => ?_)
        · exact ⟨(id q1).1.below hb1, (id q1).2.1.below hb1, (id q1).2.2.1.below hb1, (id q1).2.2.2.1.below hb1, (id q1).2.2.2.2.below hb1⟩
        refine wpAnyH_as (s5_.out _ q2) (by kernel_rfl) (by kernel_rfl) (by kernel_rfl)
      · go_simp
        refine hK.out _ _ ?_ (fun q2 => ?_)
        · exact ⟨(id q1).1.below (bl_one _ _), (id q1).2.1.below (bl_one _ _), (id q1).2.2.1.below (bl_one _ _), (id q1).2.2.2.1.below (bl_one _ _), (id q1).2.2.2.2.below (bl_one _ _)⟩
        refine wpAnyH_as (s6_.out _ _ q2 (Nat.ne_of_lt (id q1).1.lt) (Nat.ne_of_lt (id q1).2.1.lt) (Nat.ne_of_lt (id q1).2.2.1.lt) (Nat.ne_of_lt (id q1).2.2.2.1.lt) (hi ((id q1).2.2.2.2.var5 (.bool false) (.int .u64 0) (.int .u64 0) (.int .u64 0) (.int .u64 0) 73)) (id q1).2.2.2.2.sz) (by kernel_rfl) (by kernel_rfl) (by kernel_rfl)
    have s8_ : Hid (∀ (W : World) (gHM : Nat), S0 W → g1 ≠ gHM → g2 ≠ gHM → g3 ≠ gHM → g4 ≠ gHM → Hid (Var W gHM [.bool false, .int .u64 0, .int .u64 0, .int .u64 0, .int .u64 0]) → w.heap.size + 3 ≤ gHM → wpAnyH Try.prog .any ops0 Qx S0 5 #[true, true, true, true, true, false, true, true, false, false, false, true, false] (Act.put (Act.put a0 (some 41) v41_) (some 11) (.pointer (some ⟨gHM, 0, none⟩))) W) := by
      clear s0_ s1_ s2_ s3_ s4_ s5_ s7_
      refine hi ?_
      intro W1 gHM q1 ne_7_HM ne_8_HM ne_9_HM ne_10_HM HM geHM
      cases e1; cases e2; cases e3; cases e4; cases f41_; cases f44_; cases f47_; cases f48_; cases f49_
      try simp only [Act.put, x5, x6, x7]
      refine r1 (i := 5) rfl (fun K hK => ?_)
      · go_simp
        go_at_call 66
        (with_reducible refine (product_l _ _ Bq.out Br.out _).mono ?_); rintro e w1 ⟨rfl, hb1⟩
        go_wp2_with fail
        refine hK.out _ _ ?_ (fun q2 => ?_)
        · exact ⟨(id q1).1.below hb1, (id q1).2.1.below hb1, (id q1).2.2.1.below hb1, (id q1).2.2.2.1.below hb1, (id q1).2.2.2.2.below hb1⟩
        refine wpAnyH_as (s6_.out _ gHM q2 ne_7_HM ne_8_HM ne_9_HM ne_10_HM (hi (HM.out.below hb1)) geHM) (by kernel_rfl) (by kernel_rfl) (by kernel_rfl)
    have s9_ : Hid (∀ (W : World), S0 W → wpAnyH Try.prog .any ops0 Qx S0 6 #[true, true, true, true, true, false, true, true, false, false, false, false, false] (Act.put a0 (some 41) v41_) W) := by
      clear s0_ s1_ s2_ s3_ s4_ s5_ s6_
      refine hi ?_
      intro W1  q1 
      cases e1; cases e2; cases e3; cases e4; cases f41_; cases f44_; cases f47_; cases f48_; cases f49_
      try simp only [Act.put, x5, x6, x7]
      refine r2 (i := 5) (j := 11) rfl (fun K hK => ?_) rfl (fun K hK => ?_)
      · go_simp
        go_at_call 66
        (with_reducible refine (product_l _ _ Bq.out Br.out _).mono ?_); rintro e w1 ⟨rfl, hb1⟩
        go_wp2_with fail
        refine hK.out _ _ ?_ (fun q2 => ?_)
        · exact ⟨(id q1).1.below hb1, (id q1).2.1.below hb1, (id q1).2.2.1.below hb1, (id q1).2.2.2.1.below hb1, (id q1).2.2.2.2.below hb1⟩
        refine wpAnyH_as (s7_.out _ q2) (by kernel_rfl) (by kernel_rfl) (by kernel_rfl)
      · go_simp
        refine hK.out _ _ ?_ (fun q2 => ?_)
        · exact ⟨(id q1).1.below (bl_one _ _), (id q1).2.1.below (bl_one _ _), (id q1).2.2.1.below (bl_one _ _), (id q1).2.2.2.1.below (bl_one _ _), (id q1).2.2.2.2.below (bl_one _ _)⟩
        refine wpAnyH_as (s8_.out _ _ q2 (Nat.ne_of_lt (id q1).1.lt) (Nat.ne_of_lt (id q1).2.1.lt) (Nat.ne_of_lt (id q1).2.2.1.lt) (Nat.ne_of_lt (id q1).2.2.2.1.lt) (hi ((id q1).2.2.2.2.var5 (.bool false) (.int .u64 0) (.int .u64 0) (.int .u64 0) (.int .u64 0) 73)) (id q1).2.2.2.2.sz) (by kernel_rfl) (by kernel_rfl) (by kernel_rfl)
    have s10_ : Hid (∀ (W : World) (gHM : Nat), S0 W → g1 ≠ gHM → g2 ≠ gHM → g3 ≠ gHM → g4 ≠ gHM → Hid (Var W gHM [.bool false, .int .u64 0, .int .u64 0, .int .u64 0, .int .u64 0]) → w.heap.size + 3 ≤ gHM → wpAnyH Try.prog .any ops0 Qx S0 6 #[true, true, false, true, true, false, true, true, false, false, false, true, false] (Act.put a0 (some 11) (.pointer (some ⟨gHM, 0, none⟩))) W) := by
      clear s0_ s1_ s2_ s3_ s4_ s5_ s6_ s7_ s9_
      refine hi ?_
      intro W1 gHM q1 ne_7_HM ne_8_HM ne_9_HM ne_10_HM HM geHM
      cases e1; cases e2; cases e3; cases e4; cases f41_; cases f44_; cases f47_; cases f48_; cases f49_
      try simp only [Act.put, x5, x6, x7]
      refine r1 (i := 2) rfl (fun K hK => ?_)
      · go_simp
        go_at_call 66
        (with_reducible refine (product_l _ _ Bp.out Bq.out _).mono ?_); rintro e w1 ⟨rfl, hb1⟩
        go_wp2_with fail
        refine hK.out _ _ ?_ (fun q2 => ?_)
        · exact ⟨(id q1).1.below hb1, (id q1).2.1.below hb1, (id q1).2.2.1.below hb1, (id q1).2.2.2.1.below hb1, (id q1).2.2.2.2.below hb1⟩
        refine wpAnyH_as (s8_.out _ gHM q2 ne_7_HM ne_8_HM ne_9_HM ne_10_HM (hi (HM.out.below hb1)) geHM) (by kernel_rfl) (by kernel_rfl) (by kernel_rfl)
    clear s0_ s1_ s2_ s3_ s4_ s5_ s6_ s7_ s8_
    cases e1; cases e2; cases e3; cases e4; cases f41_; cases f44_; cases f47_; cases f48_; cases f49_
    refine r2 (i := 2) (j := 11) rfl (fun K hK => ?_) rfl (fun K hK => ?_)
    · go_simp
      go_at_call 66
      (with_reducible refine (product_l _ _ Bp.out Bq.out _).mono ?_); rintro e w1 ⟨rfl, hb1⟩
      go_wp2_with fail
      refine hK.out _ _ ?_ (fun q2 => ?_)
      · exact ⟨(id q1).1.below hb1, (id q1).2.1.below hb1, (id q1).2.2.1.below hb1, (id q1).2.2.2.1.below hb1, (id q1).2.2.2.2.below hb1⟩
      refine wpAnyH_as (s9_.out _ q2) (by kernel_rfl) (by kernel_rfl) (by kernel_rfl)
    · go_simp
      refine hK.out _ _ ?_ (fun q2 => ?_)
      · exact ⟨(id q1).1.below (bl_one _ _), (id q1).2.1.below (bl_one _ _), (id q1).2.2.1.below (bl_one _ _), (id q1).2.2.2.1.below (bl_one _ _), (id q1).2.2.2.2.below (bl_one _ _)⟩
      refine wpAnyH_as (s10_.out _ _ q2 (Nat.ne_of_lt (id q1).1.lt) (Nat.ne_of_lt (id q1).2.1.lt) (Nat.ne_of_lt (id q1).2.2.1.lt) (Nat.ne_of_lt (id q1).2.2.2.1.lt) (hi ((id q1).2.2.2.2.var5 (.bool false) (.int .u64 0) (.int .u64 0) (.int .u64 0) (.int .u64 0) 73)) (id q1).2.2.2.2.sz) (by kernel_rfl) (by kernel_rfl) (by kernel_rfl)
  case rest =>
  obtain ⟨g5, rfl, ⟨n11, n12⟩, v5, v4, hG⟩ := hcut
  have BMM := BMM.out
  generalize hm : maxZ (p * q) (maxZ (q * r) (r * p)) = m at *
  have HG := hi hG
  have HV5 := hi v5
  have HV4 := hi v4
  obtain ⟨c0, c1⟩ := v4.two
  have BMM := hi BMM
  clear hG v5 v4 HS2 Bp Bq Br Bpq Bqr Brp BM n1 n2 n3 n4 n5 n6 n7 n8 n9 n10
  go_upto_region 6 with (fail)
  go_cut [12] (fun po W => ∃ g6 : Nat, po = .pointer (some ⟨g6, 0, none⟩) ∧ Var W (g6) [.bool (QM (z * z * 8)), .int .u64 (Q0 (z * z * 8)), .int .u64 (Q1 (z * z * 8)), .int .u64 (Q2 (z * z * 8)), .int .u64 (Q3 (z * z * 8))] ∧ Var W (g5) [.bool (QM (m)), .int .u64 (Q0 (m)), .int .u64 (Q1 (m)), .int .u64 (Q2 (m)), .int .u64 (Q3 (m))] ∧ Var W (g4) [.int .u64 (LH (z)), .int .u64 (LL (z))] ∧ Grew w 3 W)
  case first =>
    clear HZ HR
    go_wp2_with fail
    (with_reducible refine (product_l _ _ Bz.out Bz.out _).mono ?_); rintro e w1 ⟨rfl, hb1⟩
    replace HG := hi (HG.out.below hb1)
    replace HV4 := hi (HV4.out.below hb1)
    replace HV5 := hi (HV5.out.below hb1)
    clear hb1 c0 c1
    go_wp2_with fail
    (with_reducible refine (ofQ 8 (by decide) (by decide) _).mono ?_); rintro e w1 ⟨rfl, hb1⟩
    replace HG := hi (HG.out.below hb1)
    replace HV4 := hi (HV4.out.below hb1)
    replace HV5 := hi (HV5.out.below hb1)
    clear hb1
    go_wp2_with fail
    (with_reducible refine (mulQ (z * z) 8 Bzz.out (by unfold BW M256; omega) Bz8.out _ _ _ (wides2_wd _ _ _ _)).mono ?_); rintro e w1 ⟨rfl, hb1⟩
    replace HG := hi (HG.out.below (bl_trans (bl_one _ _) hb1))
    replace HV4 := hi (HV4.out.below (bl_trans (bl_one _ _) hb1))
    replace HV5 := hi (HV5.out.below (bl_trans (bl_one _ _) hb1))
    clear hb1
    go_wp2_with fail
    go_meet
    case rel =>
      exact ⟨_, rfl, var5_new _ _ _ _ _ _ _ _ rfl, HV5.out.below (bl_one _ _), HV4.out.below (bl_one _ _), HG.out.new _⟩
  case rest =>
  obtain ⟨g6, rfl, v6, v5, v4, hG⟩ := hcut
  have HG := hi hG
  have HV5 := hi v5
  have HV6 := hi v6
  obtain ⟨c0, c1⟩ := v4.two
  clear hG v5 v4 v6 HV4
  go_wp2_with fail
  (with_reducible refine (sign_l z Bz.out _).mono ?_); rintro e w1 ⟨rfl, hb1⟩
  replace HG := hi (HG.out.below hb1)
  clear c0 c1
  by_cases h0 : z = 0
  · have hs := sg3_eq h0
    have HZ1 : Hid (skinnyB a b c = true) := by rw [HZ.out, h0]; rfl
    rw [hs]
    clear hs h0 hb1 HZ hm
    go_wp2
    go_ret
    exact ⟨by rw [HZ1.out]; rfl, HG.out.hb⟩
  · obtain ⟨d0, d1, d2, d3, d4⟩ := (HV5.out.below hb1).five
    obtain ⟨k0, k1, k2, k3, k4⟩ := (HV6.out.below hb1).five
    have hs : (sg3 z == 0) = false := by rcases sg3_vals z with ⟨h, e⟩ | ⟨h, e⟩ | ⟨h, e⟩ <;> rw [e] <;> first | rfl | omega
    have HZ1 : Hid (skinnyB a b c = decide (0 < sg3 (m - z * z * 8))) := by
      rw [HZ.out]
      have e1 : decide (z = 0) = false := decide_eq_false h0
      rw [e1]
      simp only [Bool.true_and, Bool.false_or]
      apply decide_eq_decide.2
      rcases sg3_vals (m - z * z * 8) with ⟨h, e⟩ | ⟨h, e⟩ | ⟨h, e⟩ <;> rw [e] <;> omega
    generalize sg3 z = s at *
    clear h0 hb1 HZ hm HV5 HV6
    go_wp2_with fail
    (with_reducible refine (cmpQ m (z * z * 8) BMM.out Bz8.out _).mono ?_); rintro e w1 ⟨rfl, hb1⟩
    replace HG := hi (HG.out.below hb1)
    clear hb1
    generalize sg3 (m - z * z * 8) = t at *
    go_wp2
    go_ret
    exact ⟨by rw [HZ1.out]; rfl, HG.out.hb⟩
end Go.Proofs.Ytojfggnimmaemaa
