/-
  Contract of wide.DivMod.
-/
import Derived.Test.YtojfggnimmaemaaDiv
import Derived.Test.YtojfggnimmaemaaFold
namespace Go.Proofs.Ytojfggnimmaemaa
open Go.RowKit
attribute [local go_sem ↓] Go.wp_at_zero Go.wp_at_succ

/-- quotient and remainder of two numbers, as the chapter says; both 0 and ErrArg for a divisor of 0 -/
def DivOk (A B : Int) (mq : Bool) (q0 q1 q2 q3 : Int) (mr : Bool) (r0 r1 r2 r3 er : Int) : Prop :=
  (B ≠ 0 ∧ er = 0 ∧ A = WV mq q0 q1 q2 q3 * B + WV mr r0 r1 r2 r3 ∧ 0 ≤ WV mr r0 r1 r2 r3 ∧ WV mr r0 r1 r2 r3 < (if B < 0 then -B else B) ∧ Norm mq q0 q1 q2 q3 ∧ Norm mr r0 r1 r2 r3) ∨
  (B = 0 ∧ er = 2 ∧ (mq = false ∧ q0 = 0 ∧ q1 = 0 ∧ q2 = 0 ∧ q3 = 0) ∧ (mr = false ∧ r0 = 0 ∧ r1 = 0 ∧ r2 = 0 ∧ r3 = 0))
def DivModP (A B : Int) (w : World) (e : Ending) (w' : World) : Prop :=
  ∃ (mq : Bool) (q0 q1 q2 q3 : Int) (mr : Bool) (r0 r1 r2 r3 er : Int), In4 q0 q1 q2 q3 ∧ In4 r0 r1 r2 r3 ∧ Hid (DivOk A B mq q0 q1 q2 q3 mr r0 r1 r2 r3 er) ∧
    e = .returned (.tuple #[(.agg #[.bool mq, .int .u64 q0, .int .u64 q1, .int .u64 q2, .int .u64 q3]), (.agg #[.bool mr, .int .u64 r0, .int .u64 r1, .int .u64 r2, .int .u64 r3]), .int .i64 er]) ∧ Below w.heap.size w w'

/-- DivMod's memory: the arguments' boxes, the results -/
structure DM (w : World) (A B : Wd) (W : World) : Prop where
  a1 : At5 W w.heap.size 0 A
  x1 : At5 W (w.heap.size + 1) 0 B
  q1 : At5 W (w.heap.size + 1 + 1) 0 ⟨false, 0, 0, 0, 0⟩
  q2 : Free5 W (w.heap.size + 1 + 1) 0
  r1 : At5 W (w.heap.size + 1 + 1 + 1) 0 ⟨false, 0, 0, 0, 0⟩
  r2 : Free5 W (w.heap.size + 1 + 1 + 1) 0
  hb : Below w.heap.size w W
theorem DM.below {w : World} {A B : Wd} {W W' : World} (h : DM w A B W) (hb : Below W.heap.size W W') : DM w A B W' :=
  ⟨h.a1.below hb h.a1.lt, h.x1.below hb h.x1.lt, h.q1.below hb h.q1.lt, h.q2.below hb h.q1.lt, h.r1.below hb h.r1.lt, h.r2.below hb h.r1.lt, bl_trans h.hb hb⟩
theorem DM.far {w : World} {A B : Wd} {W : World} (h : DM w A B W) {g : Nat} (hg : w.heap.size + 1 + 1 + 1 < g) (o : Nat) (v : Value) : DM w A B (W.setCell ⟨g, o, none⟩ v) := by
  have far : ∀ b j, b ≠ g → (W.setCell ⟨g, o, none⟩ v).cell? ⟨b, j, none⟩ = W.cell? ⟨b, j, none⟩ := fun b j hne => World.cell?_setCell_far _ _ _ _ (fun e => hne e.symm)
  refine ⟨⟨?_, ?_, ?_, ?_, ?_⟩, ⟨?_, ?_, ?_, ?_, ?_⟩, ⟨?_, ?_, ?_, ?_, ?_⟩, ⟨?_, ?_, ?_, ?_, ?_⟩, ⟨?_, ?_, ?_, ?_, ?_⟩, ⟨?_, ?_, ?_, ?_, ?_⟩, bl_set h.hb (by dsimp only; omega) _⟩
  all_goals first
    | (rw [far _ _ (by omega)]; first | exact h.a1.c0 | exact h.a1.c1 | exact h.a1.c2 | exact h.a1.c3 | exact h.a1.c4 | exact h.x1.c0 | exact h.x1.c1 | exact h.x1.c2 | exact h.x1.c3 | exact h.x1.c4 | exact h.q1.c0 | exact h.q1.c1 | exact h.q1.c2 | exact h.q1.c3 | exact h.q1.c4 | exact h.r1.c0 | exact h.r1.c1 | exact h.r1.c2 | exact h.r1.c3 | exact h.r1.c4)
    | (rw [World.frozen?_setCell]; first | exact h.q2.f0 | exact h.q2.f1 | exact h.q2.f2 | exact h.q2.f3 | exact h.q2.f4 | exact h.r2.f0 | exact h.r2.f1 | exact h.r2.f2 | exact h.r2.f3 | exact h.r2.f4)

/-- behind the correction of the quotient and the rest -/
def DMCut (w : World) (m n : Bool) (a b c d x y z u : Int) (g : Nat) (W : World) : Prop :=
  ∃ q0 q1 q2 q3 r0 r1 r2 r3 : Int, In4 q0 q1 q2 q3 ∧ In4 r0 r1 r2 r3 ∧ DM w ⟨m, a, b, c, d⟩ ⟨n, x, y, z, u⟩ W ∧ At4 W g q0 q1 q2 q3 ∧ At4 W (g + 1) r0 r1 r2 r3 ∧
    WV m a b c d = (if (m != n) then - V4 q0 q1 q2 q3 else V4 q0 q1 q2 q3) * WV n x y z u + V4 r0 r1 r2 r3 ∧ V4 r0 r1 r2 r3 < V4 x y z u

theorem dm_end {m n : Bool} {a b c d x y z u e0 e1 e2 e3 o0 o1 o2 o3 : Int} {mq mr : Bool} (hY : V4 x y z u ≠ 0) (hO : In4 o0 o1 o2 o3) (hq : mq = ((m != n) && decide (V4 e0 e1 e2 e3 ≠ 0))) (hr : mr = (false && decide (V4 o0 o1 o2 o3 ≠ 0)))
    (h : WV m a b c d = (if (m != n) then - V4 e0 e1 e2 e3 else V4 e0 e1 e2 e3) * WV n x y z u + V4 o0 o1 o2 o3) (hlt : V4 o0 o1 o2 o3 < V4 x y z u) :
    WV n x y z u ≠ 0 ∧ (0 : Int) = 0 ∧ WV m a b c d = WV mq e0 e1 e2 e3 * WV n x y z u + WV mr o0 o1 o2 o3 ∧ 0 ≤ WV mr o0 o1 o2 o3 ∧ WV mr o0 o1 o2 o3 < (if WV n x y z u < 0 then - WV n x y z u else WV n x y z u) ∧ Norm mq e0 e1 e2 e3 ∧ Norm mr o0 o1 o2 o3 := by
  have q := norm_of hq
  have r := norm_of hr
  have b := v4_bounds hO
  have er : WV mr o0 o1 o2 o3 = V4 o0 o1 o2 o3 := by rw [r.1]; rfl
  refine ⟨fun e => hY (wv_zero.1 e), rfl, ?_, ?_, ?_, q.2, r.2⟩
  · rw [q.1, er]; exact h
  · rw [er]; exact b.1
  · rw [er]; unfold WV; cases n <;> simp <;> omega
theorem dm_pos {n : Bool} {a b c d x y z u Q R : Int} (h : V4 a b c d = Q * V4 x y z u + R) : WV false a b c d = (if (false != n) then -Q else Q) * WV n x y z u + R := by
  unfold WV; cases n <;> simp <;> grind
theorem dm_zero {n : Bool} {a b c d x y z u Q R : Int} (h0 : R = 0) (h : V4 a b c d = Q * V4 x y z u + R) : WV true a b c d = (if (true != n) then -Q else Q) * WV n x y z u + R := by
  subst h0
  unfold WV; cases n <;> simp <;> grind
theorem dm_neg {n : Bool} {a b c d x y z u A Q Y R S T co co2 : Int} (hA' : A = V4 a b c d) (hY' : Y = V4 x y z u) (hA : 0 ≤ A ∧ A < M256) (hY : 0 ≤ Y ∧ Y < M256) (hQ : 0 ≤ Q ∧ Q < M256) (hR : 0 ≤ R ∧ R < M256) (hS : 0 ≤ S ∧ S < M256) (hT : 0 ≤ T ∧ T < M256) (h0 : R ≠ 0) (h : A = Q * Y + R ∧ R < Y) (hs : (co = 0 ∨ co = 1) ∧ S + M256 * co = Q + V4 1 0 0 0) (ht : (co2 = 0 ∨ co2 = 1) ∧ T + R = Y + M256 * co2) :
    WV true a b c d = (if (true != n) then -S else S) * WV n x y z u + T ∧ T < V4 x y z u := by
  rw [v4_small] at hs
  have h2 : Q * 2 ≤ Q * Y := Int.mul_le_mul_of_nonneg_left (by omega) hQ.1
  have eS : S = Q + 1 := by
    rcases hs.1 with rfl | rfl
    · omega
    · have := hs.2
      have := h.1
      generalize Q * Y = p at *
      unfold M256 at *; omega
  have eT : T = Y - R := by
    rcases ht.1 with rfl | rfl
    · omega
    · have := ht.2
      unfold M256 at *; omega
  subst eS eT
  rw [← hY']
  refine ⟨?_, by omega⟩
  have e := h.1
  unfold WV
  rw [← hA', ← hY']
  cases n <;> simp <;> grind

set_option maxHeartbeats 4000000 in
set_option maxRecDepth 100000 in
theorem divMod_c (m n : Bool) (a b c d x y z u : Int) (hA : In4 a b c d) (hX : In4 x y z u) (w : World) :
    Calls Try.prog 92 #[(.agg #[.bool m, .int .u64 a, .int .u64 b, .int .u64 c, .int .u64 d]), (.agg #[.bool n, .int .u64 x, .int .u64 y, .int .u64 z, .int .u64 u])] w (DivModP (WV m a b c d) (WV n x y z u) w) := by
  have HA := hid_mk hA
  have HX := hid_mk hX
  clear hA hX
  go_enter Try.func92, Try.ntmps92
  go_upto_region 1 with (fail)
  refine wp_abs (fun W => DM w ⟨m, a, b, c, d⟩ ⟨n, x, y, z, u⟩ W) ?_ ?_
  · refine ⟨?_, ?_, ?_, ?_, ?_, ?_, by repeat (first | (with_reducible exact Below.refl _ _) | (with_reducible refine bl_alloc ?_ _) | (with_reducible refine Below.drew ?_) | (with_reducible refine below_drewN' ?_ _) | ((with_reducible refine bl_set ?_ ?_ _); (rotate_left; (dsimp only; omega))))⟩
    all_goals (constructor <;> simp [go_sem])
  intro W0 S0
  have HS := Lib.hid S0
  obtain ⟨-, ⟨x0, x1, x2, x3, x4⟩, -, -, -, -, -⟩ := S0
  simp only [Nat.zero_add] at x1 x2 x3 x4
  go_wp2_with fail
  refine (sign_c n x y z u HX.out _).mono ?_
  rintro e w1 ⟨rfl, hb⟩
  have HS1 := Lib.hid (HS.out.below hb)
  clear HS x0 x1 x2 x3 x4 hb
  by_cases hY : V4 x y z u = 0
  · have HY := Lib.hid hY
    have hsg : (sgn n (V4 x y z u) == 0) = true := by simp [sgn, hY]
    clear hY
    obtain ⟨-, -, ⟨p0, p1, p2, p3, p4⟩, ⟨g0, g1, g2, g3, g4⟩, ⟨r0, r1, r2, r3, r4⟩, ⟨k0, k1, k2, k3, k4⟩, -⟩ := HS1.out
    simp only [Nat.zero_add] at p1 p2 p3 p4 g1 g2 g3 g4 r1 r2 r3 r4 k1 k2 k3 k4
    go_wp2
    refine bodyPost_ret (v := .tuple #[(.agg #[.bool false, .int .u64 0, .int .u64 0, .int .u64 0, .int .u64 0]), (.agg #[.bool false, .int .u64 0, .int .u64 0, .int .u64 0, .int .u64 0]), .int .i64 2]) (by simp [results, Try.results92, go_sem, p0, p1, p2, p3, p4, r0, r1, r2, r3, r4]) rfl ⟨false, 0, 0, 0, 0, false, 0, 0, 0, 0, 2, in4_zero, in4_zero, Or.inr ⟨wv_zero.2 HY.out, rfl, ⟨rfl, rfl, rfl, rfl, rfl⟩, ⟨rfl, rfl, rfl, rfl, rfl⟩⟩, rfl, ?_⟩
    have := HS1.out.hb
    repeat (first | (with_reducible exact Below.refl _ _) | (with_reducible refine bl_alloc ?_ _) | (with_reducible refine Below.drew ?_) | (with_reducible refine below_drewN' ?_ _) | ((with_reducible refine bl_set ?_ ?_ _); (rotate_left; (dsimp only; omega))))
    exact this
  · have HY := Lib.hid hY
    have hsg : (sgn n (V4 x y z u) == 0) = false := by simp [sgn, hY]; cases n <;> simp
    clear hY
    obtain ⟨⟨a0, a1, a2, a3, a4⟩, ⟨x0, x1, x2, x3, x4⟩, -, -, -, -, -⟩ := HS1.out
    simp only [Nat.zero_add] at a1 a2 a3 a4 x1 x2 x3 x4
    go_wp2_with fail
    refine (divLimbs_c a b c d x y z u HA.out HX.out HY.out _).mono ?_
    rintro e w2 ⟨q0, q1, q2, q3, r0, r1, r2, r3, hq, hr, hv, rfl, hb⟩
    have HS2 := Lib.hid (HS1.out.below hb)
    have hlt : w.heap.size + 1 + 1 + 1 < w2.heap.size := HS2.out.r1.lt
    clear HS1 a0 a1 a2 a3 a4 x0 x1 x2 x3 x4 hb
    obtain ⟨⟨a0, a1, a2, a3, a4⟩, ⟨x0, x1, x2, x3, x4⟩, -, -, -, -, -⟩ := HS2.out
    simp only [Nat.zero_add] at a1 a2 a3 a4 x1 x2 x3 x4
    have hz0 : w.heap.size < w2.heap.size := by omega
    have hz1 : w.heap.size < w2.heap.size + 1 := by omega
    go_upto_region 4 with (fail)
    generalize hg : w2.heap.size = g at *
    have HG := Lib.hid hg
    clear hg
    refine wp_abs (fun W => DM w ⟨m, a, b, c, d⟩ ⟨n, x, y, z, u⟩ W ∧ At4 W g q0 q1 q2 q3 ∧ Free4 W g ∧ At4 W (g + 1) r0 r1 r2 r3 ∧ Free4 W (g + 1)) ?_ ?_
    · have eg := HG.out
      subst eg
      refine ⟨(HS2.out.below (bl_one _ _)).below (bl_one _ _), ?_, ?_, ?_, ?_⟩
      all_goals (constructor <;> simp [go_sem])
    clear a0 a1 a2 a3 a4 x0 x1 x2 x3 x4 HS2
    intro W3 S3
    obtain ⟨zb, hz, he⟩ := isz r0 r1 r2 r3 hr
    have H3 := Lib.hid S3
    obtain ⟨⟨⟨a0, -, -, -, -⟩, -, -, -, -, -, -⟩, ⟨q0c, q1c, q2c, q3c⟩, -, ⟨r0c, r1c, r2c, r3c⟩, -⟩ := S3
    clear hz0 hz1
    cases m
    · go_upto_region 7 with (fail)
      refine wp_abs (fun W => DMCut w false n a b c d x y z u g W) ⟨q0, q1, q2, q3, r0, r1, r2, r3, hq, hr, H3.out.1, H3.out.2.1, H3.out.2.2.2.1, dm_pos hv.out.1, hv.out.2⟩ ?_
      rintro W6 ⟨e0, e1, e2, e3, o0, o1, o2, o3, hE, hO, S6, E6, O6, v1, v2⟩
      have H6 := Lib.hid (And.intro hE (And.intro hO (And.intro S6 (And.intro E6 (And.intro O6 (And.intro v1 v2))))))
      obtain ⟨⟨a0', -, -, -, -⟩, ⟨x0', -, -, -, -⟩, -, -, -, -, -⟩ := S6
      obtain ⟨e0c, e1c, e2c, e3c⟩ := E6
      obtain ⟨o0c, o1c, o2c, o3c⟩ := O6
      clear hE hO v1 v2 a0 q0c q1c q2c q3c r0c r1c r2c r3c H3
      go_region_with (first | (go_at_call_of 104 e0; refine (signed_c _ e0 e1 e2 e3 H6.out.1 _).mono ?_; rintro e w7 ⟨mq, hmq, rfl, hb7⟩; obtain ⟨⟨⟨-, -, -, -, -⟩, -, ⟨p0, p1, p2, p3, p4⟩, ⟨g0, g1, g2, g3, g4⟩, ⟨k0, k1, k2, k3, k4⟩, ⟨l0, l1, l2, l3, l4⟩, hbb7⟩, ⟨a0'', x0'', o0d, o1d, o2d, o3d⟩⟩ := (show DM w ⟨false, a, b, c, d⟩ ⟨n, x, y, z, u⟩ w7 ∧ (w7.cell? ⟨w.heap.size, 0, none⟩ = some (.bool false) ∧ w7.cell? ⟨w.heap.size + 1, 0, none⟩ = some (.bool n) ∧ w7.cell? ⟨g + 1, 0, none⟩ = some (.int .u64 o0) ∧ w7.cell? ⟨g + 1, 1, none⟩ = some (.int .u64 o1) ∧ w7.cell? ⟨g + 1, 2, none⟩ = some (.int .u64 o2) ∧ w7.cell? ⟨g + 1, 3, none⟩ = some (.int .u64 o3)) from (by have hbx : Below W6.heap.size W6 w7 := (by first | exact bl_trans (bl_drew1 _) hb7 | exact bl_trans (bl_trans (bl_drew1 _) hb8) hb7); exact ⟨H6.out.2.2.1.below hbx, (H6.out.2.2.1.below hbx).a1.c0, (H6.out.2.2.1.below hbx).x1.c0, (H6.out.2.2.2.2.1.below hbx).c0, (H6.out.2.2.2.2.1.below hbx).c1, (H6.out.2.2.2.2.1.below hbx).c2, (H6.out.2.2.2.2.1.below hbx).c3⟩)); simp only [Nat.zero_add] at p1 p2 p3 p4 g1 g2 g3 g4 k1 k2 k3 k4 l1 l2 l3 l4) | (go_at_call_of 104 o0; refine (signed_c false o0 o1 o2 o3 H6.out.2.1 _).mono ?_; rintro e w8 ⟨mr, hmr, rfl, hb8⟩; obtain ⟨⟨⟨-, -, -, -, -⟩, -, ⟨p0, p1, p2, p3, p4⟩, ⟨g0, g1, g2, g3, g4⟩, ⟨k0, k1, k2, k3, k4⟩, ⟨l0, l1, l2, l3, l4⟩, hbb8⟩, ⟨a0'', x0'', o0d, o1d, o2d, o3d⟩⟩ := (show DM w ⟨false, a, b, c, d⟩ ⟨n, x, y, z, u⟩ w8 ∧ (w8.cell? ⟨w.heap.size, 0, none⟩ = some (.bool false) ∧ w8.cell? ⟨w.heap.size + 1, 0, none⟩ = some (.bool n) ∧ w8.cell? ⟨g, 0, none⟩ = some (.int .u64 e0) ∧ w8.cell? ⟨g, 1, none⟩ = some (.int .u64 e1) ∧ w8.cell? ⟨g, 2, none⟩ = some (.int .u64 e2) ∧ w8.cell? ⟨g, 3, none⟩ = some (.int .u64 e3)) from (by have hbx : Below W6.heap.size W6 w8 := (by first | exact bl_trans (bl_drew1 _) hb8 | exact bl_trans (bl_trans (bl_drew1 _) hb7) hb8); exact ⟨H6.out.2.2.1.below hbx, (H6.out.2.2.1.below hbx).a1.c0, (H6.out.2.2.1.below hbx).x1.c0, (H6.out.2.2.2.1.below hbx).c0, (H6.out.2.2.2.1.below hbx).c1, (H6.out.2.2.2.1.below hbx).c2, (H6.out.2.2.2.1.below hbx).c3⟩)); simp only [Nat.zero_add] at p1 p2 p3 p4 g1 g2 g3 g4 k1 k2 k3 k4 l1 l2 l3 l4))
      all_goals
        go_wp2
        refine bodyPost_ret (v := .tuple #[(.agg #[.bool mq, .int .u64 e0, .int .u64 e1, .int .u64 e2, .int .u64 e3]), (.agg #[.bool mr, .int .u64 o0, .int .u64 o1, .int .u64 o2, .int .u64 o3]), .int .i64 0]) (by simp [results, Try.results92, go_sem, p0, p1, p2, p3, p4, k0, k1, k2, k3, k4]) rfl ⟨mq, e0, e1, e2, e3, mr, o0, o1, o2, o3, 0, H6.out.1, H6.out.2.1, Or.inl (dm_end HY.out H6.out.2.1 (by have hq0 := hmq.out; cases n <;> simpa using hq0) hmr.out H6.out.2.2.2.2.2.1 H6.out.2.2.2.2.2.2), rfl, ?_⟩
        repeat (first | (with_reducible exact Below.refl _ _) | (with_reducible refine bl_alloc ?_ _) | (with_reducible refine Below.drew ?_) | (with_reducible refine below_drewN' ?_ _) | ((with_reducible refine bl_set ?_ ?_ _); (rotate_left; (dsimp only; omega))))
        first | (with_reducible exact hbb7) | (with_reducible exact hbb8)
    · cases zb
      · go_wp2_with fail
        refine (addLimbs_c q0 q1 q2 q3 1 0 0 0 hq (in4_small (by unfold In1; omega)) _).mono ?_
        rintro e w4 ⟨s0, s1, s2, s3, co, hs, hsv, rfl, hb4⟩
        have H4 := Lib.hid (And.intro (H3.out.1.below hb4) (And.intro (H3.out.2.1.below hb4) (And.intro (H3.out.2.2.1.below H3.out.2.1.lt hb4) (And.intro (H3.out.2.2.2.1.below hb4) (H3.out.2.2.2.2.below H3.out.2.2.2.1.lt hb4)))))
        clear a0 q0c q1c q2c q3c r0c r1c r2c r3c hb4 H3
        obtain ⟨⟨-, ⟨x0, x1, x2, x3, x4⟩, -, -, -, -, -⟩, ⟨q0c, q1c, q2c, q3c⟩, ⟨f0, f1, f2, f3⟩, ⟨r0c, r1c, r2c, r3c⟩, -⟩ := H4.out
        simp only [Nat.zero_add] at x1 x2 x3 x4
        have n1 : ¬ (g = w.heap.size + 1) := by omega
        have n2 : ¬ (g = g + 1) := by omega
        go_wp2_with fail
        refine (subLimbs_c x y z u r0 r1 r2 r3 HX.out hr _).mono ?_
        rintro e w5 ⟨t0, t1, t2, t3, co2, ht, htv, rfl, hb5⟩
        have H5 := Lib.hid (show DM w ⟨true, a, b, c, d⟩ ⟨n, x, y, z, u⟩ w5 ∧ At4 w5 g s0 s1 s2 s3 ∧ At4 w5 (g + 1) r0 r1 r2 r3 ∧ Free4 w5 (g + 1) from
          ⟨((((H4.out.1.far (by omega) _ _).far (by omega) _ _).far (by omega) _ _).far (by omega) _ _).below hb5, (H4.out.2.1.store s0 s1 s2 s3).below hb5, ((((H4.out.2.2.2.1.far (by omega) _ _).far (by omega) _ _).far (by omega) _ _).far (by omega) _ _).below hb5, ((((H4.out.2.2.2.2.far _ _).far _ _).far _ _).far _ _).below ((((H4.out.2.2.2.1.far (by omega) _ _).far (by omega) _ _).far (by omega) _ _).far (by omega) _ _).lt hb5⟩)
        clear x0 x1 x2 x3 x4 q0c q1c q2c q3c f0 f1 f2 f3 r0c r1c r2c r3c hb5 H4
        obtain ⟨-, -, ⟨r0c, r1c, r2c, r3c⟩, ⟨f0, f1, f2, f3⟩⟩ := H5.out
        go_upto_region 7 with (fail)
        have mm := dm_neg (a := a) (b := b) (c := c) (d := d) (x := x) (y := y) (z := z) (u := u) (A := V4 a b c d) (Q := V4 q0 q1 q2 q3) (Y := V4 x y z u) (R := V4 r0 r1 r2 r3) (S := V4 s0 s1 s2 s3) (T := V4 t0 t1 t2 t3) (n := n) rfl rfl (v4_bounds HA.out) (v4_bounds HX.out) (v4_bounds hq) (v4_bounds hr) (v4_bounds hs) (v4_bounds ht) (fun h => absurd (hz.out.2 h) (by simp)) hv.out hsv.out htv.out
        have MM := Lib.hid mm
        clear mm
        refine wp_abs (fun W => DMCut w true n a b c d x y z u g W) ⟨s0, s1, s2, s3, t0, t1, t2, t3, hs, ht, (((H5.out.1.far (by omega) _ _).far (by omega) _ _).far (by omega) _ _).far (by omega) _ _, (((H5.out.2.1.far (by omega) _ _).far (by omega) _ _).far (by omega) _ _).far (by omega) _ _, H5.out.2.2.1.store t0 t1 t2 t3, MM.out.1, MM.out.2⟩ ?_
        rintro W6 ⟨e0, e1, e2, e3, o0, o1, o2, o3, hE, hO, S6, E6, O6, v1, v2⟩
        have H6 := Lib.hid (And.intro hE (And.intro hO (And.intro S6 (And.intro E6 (And.intro O6 (And.intro v1 v2))))))
        obtain ⟨⟨a0', -, -, -, -⟩, ⟨x0', -, -, -, -⟩, -, -, -, -, -⟩ := S6
        obtain ⟨e0c, e1c, e2c, e3c⟩ := E6
        obtain ⟨o0c, o1c, o2c, o3c⟩ := O6
        clear hE hO v1 v2 r0c r1c r2c r3c f0 f1 f2 f3 H5
        go_region_with (first | (go_at_call_of 104 e0; refine (signed_c _ e0 e1 e2 e3 H6.out.1 _).mono ?_; rintro e w7 ⟨mq, hmq, rfl, hb7⟩; obtain ⟨⟨⟨-, -, -, -, -⟩, -, ⟨p0, p1, p2, p3, p4⟩, ⟨g0, g1, g2, g3, g4⟩, ⟨k0, k1, k2, k3, k4⟩, ⟨l0, l1, l2, l3, l4⟩, hbb7⟩, ⟨a0'', x0'', o0d, o1d, o2d, o3d⟩⟩ := (show DM w ⟨true, a, b, c, d⟩ ⟨n, x, y, z, u⟩ w7 ∧ (w7.cell? ⟨w.heap.size, 0, none⟩ = some (.bool true) ∧ w7.cell? ⟨w.heap.size + 1, 0, none⟩ = some (.bool n) ∧ w7.cell? ⟨g + 1, 0, none⟩ = some (.int .u64 o0) ∧ w7.cell? ⟨g + 1, 1, none⟩ = some (.int .u64 o1) ∧ w7.cell? ⟨g + 1, 2, none⟩ = some (.int .u64 o2) ∧ w7.cell? ⟨g + 1, 3, none⟩ = some (.int .u64 o3)) from (by have hbx : Below W6.heap.size W6 w7 := (by first | exact bl_trans (bl_drew1 _) hb7 | exact bl_trans (bl_trans (bl_drew1 _) hb8) hb7); exact ⟨H6.out.2.2.1.below hbx, (H6.out.2.2.1.below hbx).a1.c0, (H6.out.2.2.1.below hbx).x1.c0, (H6.out.2.2.2.2.1.below hbx).c0, (H6.out.2.2.2.2.1.below hbx).c1, (H6.out.2.2.2.2.1.below hbx).c2, (H6.out.2.2.2.2.1.below hbx).c3⟩)); simp only [Nat.zero_add] at p1 p2 p3 p4 g1 g2 g3 g4 k1 k2 k3 k4 l1 l2 l3 l4) | (go_at_call_of 104 o0; refine (signed_c false o0 o1 o2 o3 H6.out.2.1 _).mono ?_; rintro e w8 ⟨mr, hmr, rfl, hb8⟩; obtain ⟨⟨⟨-, -, -, -, -⟩, -, ⟨p0, p1, p2, p3, p4⟩, ⟨g0, g1, g2, g3, g4⟩, ⟨k0, k1, k2, k3, k4⟩, ⟨l0, l1, l2, l3, l4⟩, hbb8⟩, ⟨a0'', x0'', o0d, o1d, o2d, o3d⟩⟩ := (show DM w ⟨true, a, b, c, d⟩ ⟨n, x, y, z, u⟩ w8 ∧ (w8.cell? ⟨w.heap.size, 0, none⟩ = some (.bool true) ∧ w8.cell? ⟨w.heap.size + 1, 0, none⟩ = some (.bool n) ∧ w8.cell? ⟨g, 0, none⟩ = some (.int .u64 e0) ∧ w8.cell? ⟨g, 1, none⟩ = some (.int .u64 e1) ∧ w8.cell? ⟨g, 2, none⟩ = some (.int .u64 e2) ∧ w8.cell? ⟨g, 3, none⟩ = some (.int .u64 e3)) from (by have hbx : Below W6.heap.size W6 w8 := (by first | exact bl_trans (bl_drew1 _) hb8 | exact bl_trans (bl_trans (bl_drew1 _) hb7) hb8); exact ⟨H6.out.2.2.1.below hbx, (H6.out.2.2.1.below hbx).a1.c0, (H6.out.2.2.1.below hbx).x1.c0, (H6.out.2.2.2.1.below hbx).c0, (H6.out.2.2.2.1.below hbx).c1, (H6.out.2.2.2.1.below hbx).c2, (H6.out.2.2.2.1.below hbx).c3⟩)); simp only [Nat.zero_add] at p1 p2 p3 p4 g1 g2 g3 g4 k1 k2 k3 k4 l1 l2 l3 l4))
        all_goals
          go_wp2
          refine bodyPost_ret (v := .tuple #[(.agg #[.bool mq, .int .u64 e0, .int .u64 e1, .int .u64 e2, .int .u64 e3]), (.agg #[.bool mr, .int .u64 o0, .int .u64 o1, .int .u64 o2, .int .u64 o3]), .int .i64 0]) (by simp [results, Try.results92, go_sem, p0, p1, p2, p3, p4, k0, k1, k2, k3, k4]) rfl ⟨mq, e0, e1, e2, e3, mr, o0, o1, o2, o3, 0, H6.out.1, H6.out.2.1, Or.inl (dm_end HY.out H6.out.2.1 (by have hq0 := hmq.out; cases n <;> simpa using hq0) hmr.out H6.out.2.2.2.2.2.1 H6.out.2.2.2.2.2.2), rfl, ?_⟩
          repeat (first | (with_reducible exact Below.refl _ _) | (with_reducible refine bl_alloc ?_ _) | (with_reducible refine Below.drew ?_) | (with_reducible refine below_drewN' ?_ _) | ((with_reducible refine bl_set ?_ ?_ _); (rotate_left; (dsimp only; omega))))
          first | (with_reducible exact hbb7) | (with_reducible exact hbb8)
      · go_upto_region 7 with (fail)
        refine wp_abs (fun W => DMCut w true n a b c d x y z u g W) ⟨q0, q1, q2, q3, r0, r1, r2, r3, hq, hr, H3.out.1, H3.out.2.1, H3.out.2.2.2.1, dm_zero (hz.out.1 (by simp)) hv.out.1, hv.out.2⟩ ?_
        rintro W6 ⟨e0, e1, e2, e3, o0, o1, o2, o3, hE, hO, S6, E6, O6, v1, v2⟩
        have H6 := Lib.hid (And.intro hE (And.intro hO (And.intro S6 (And.intro E6 (And.intro O6 (And.intro v1 v2))))))
        obtain ⟨⟨a0', -, -, -, -⟩, ⟨x0', -, -, -, -⟩, -, -, -, -, -⟩ := S6
        obtain ⟨e0c, e1c, e2c, e3c⟩ := E6
        obtain ⟨o0c, o1c, o2c, o3c⟩ := O6
        clear hE hO v1 v2 a0 q0c q1c q2c q3c r0c r1c r2c r3c H3
        go_region_with (first | (go_at_call_of 104 e0; refine (signed_c _ e0 e1 e2 e3 H6.out.1 _).mono ?_; rintro e w7 ⟨mq, hmq, rfl, hb7⟩; obtain ⟨⟨⟨-, -, -, -, -⟩, -, ⟨p0, p1, p2, p3, p4⟩, ⟨g0, g1, g2, g3, g4⟩, ⟨k0, k1, k2, k3, k4⟩, ⟨l0, l1, l2, l3, l4⟩, hbb7⟩, ⟨a0'', x0'', o0d, o1d, o2d, o3d⟩⟩ := (show DM w ⟨true, a, b, c, d⟩ ⟨n, x, y, z, u⟩ w7 ∧ (w7.cell? ⟨w.heap.size, 0, none⟩ = some (.bool true) ∧ w7.cell? ⟨w.heap.size + 1, 0, none⟩ = some (.bool n) ∧ w7.cell? ⟨g + 1, 0, none⟩ = some (.int .u64 o0) ∧ w7.cell? ⟨g + 1, 1, none⟩ = some (.int .u64 o1) ∧ w7.cell? ⟨g + 1, 2, none⟩ = some (.int .u64 o2) ∧ w7.cell? ⟨g + 1, 3, none⟩ = some (.int .u64 o3)) from (by have hbx : Below W6.heap.size W6 w7 := (by first | exact bl_trans (bl_drew1 _) hb7 | exact bl_trans (bl_trans (bl_drew1 _) hb8) hb7); exact ⟨H6.out.2.2.1.below hbx, (H6.out.2.2.1.below hbx).a1.c0, (H6.out.2.2.1.below hbx).x1.c0, (H6.out.2.2.2.2.1.below hbx).c0, (H6.out.2.2.2.2.1.below hbx).c1, (H6.out.2.2.2.2.1.below hbx).c2, (H6.out.2.2.2.2.1.below hbx).c3⟩)); simp only [Nat.zero_add] at p1 p2 p3 p4 g1 g2 g3 g4 k1 k2 k3 k4 l1 l2 l3 l4) | (go_at_call_of 104 o0; refine (signed_c false o0 o1 o2 o3 H6.out.2.1 _).mono ?_; rintro e w8 ⟨mr, hmr, rfl, hb8⟩; obtain ⟨⟨⟨-, -, -, -, -⟩, -, ⟨p0, p1, p2, p3, p4⟩, ⟨g0, g1, g2, g3, g4⟩, ⟨k0, k1, k2, k3, k4⟩, ⟨l0, l1, l2, l3, l4⟩, hbb8⟩, ⟨a0'', x0'', o0d, o1d, o2d, o3d⟩⟩ := (show DM w ⟨true, a, b, c, d⟩ ⟨n, x, y, z, u⟩ w8 ∧ (w8.cell? ⟨w.heap.size, 0, none⟩ = some (.bool true) ∧ w8.cell? ⟨w.heap.size + 1, 0, none⟩ = some (.bool n) ∧ w8.cell? ⟨g, 0, none⟩ = some (.int .u64 e0) ∧ w8.cell? ⟨g, 1, none⟩ = some (.int .u64 e1) ∧ w8.cell? ⟨g, 2, none⟩ = some (.int .u64 e2) ∧ w8.cell? ⟨g, 3, none⟩ = some (.int .u64 e3)) from (by have hbx : Below W6.heap.size W6 w8 := (by first | exact bl_trans (bl_drew1 _) hb8 | exact bl_trans (bl_trans (bl_drew1 _) hb7) hb8); exact ⟨H6.out.2.2.1.below hbx, (H6.out.2.2.1.below hbx).a1.c0, (H6.out.2.2.1.below hbx).x1.c0, (H6.out.2.2.2.1.below hbx).c0, (H6.out.2.2.2.1.below hbx).c1, (H6.out.2.2.2.1.below hbx).c2, (H6.out.2.2.2.1.below hbx).c3⟩)); simp only [Nat.zero_add] at p1 p2 p3 p4 g1 g2 g3 g4 k1 k2 k3 k4 l1 l2 l3 l4))
        all_goals
          go_wp2
          refine bodyPost_ret (v := .tuple #[(.agg #[.bool mq, .int .u64 e0, .int .u64 e1, .int .u64 e2, .int .u64 e3]), (.agg #[.bool mr, .int .u64 o0, .int .u64 o1, .int .u64 o2, .int .u64 o3]), .int .i64 0]) (by simp [results, Try.results92, go_sem, p0, p1, p2, p3, p4, k0, k1, k2, k3, k4]) rfl ⟨mq, e0, e1, e2, e3, mr, o0, o1, o2, o3, 0, H6.out.1, H6.out.2.1, Or.inl (dm_end HY.out H6.out.2.1 (by have hq0 := hmq.out; cases n <;> simpa using hq0) hmr.out H6.out.2.2.2.2.2.1 H6.out.2.2.2.2.2.2), rfl, ?_⟩
          repeat (first | (with_reducible exact Below.refl _ _) | (with_reducible refine bl_alloc ?_ _) | (with_reducible refine Below.drew ?_) | (with_reducible refine below_drewN' ?_ _) | ((with_reducible refine bl_set ?_ ?_ _); (rotate_left; (dsimp only; omega))))
          first | (with_reducible exact hbb7) | (with_reducible exact hbb8)
end Go.Proofs.Ytojfggnimmaemaa
