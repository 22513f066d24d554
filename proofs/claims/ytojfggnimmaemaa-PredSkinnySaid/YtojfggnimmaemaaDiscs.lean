/-
  Contracts of the document's Square, Num.Cmp.
-/
import Derived.Test.YtojfggnimmaemaaAreas
import Derived.Test.YtojfggnimmaemaaGeos
import Derived.Test.YtojfggnimmaemaaRefFits
namespace Go.Proofs.Ytojfggnimmaemaa
open Go.RowKit

theorem wrap_r6 (x : Int) : R64 (IntKind.i64.wrap x) := by rw [IntKind.wrap_i64]; unfold R64; omega
theorem R64.ab6 {x : Int} (h : R64 x) : Ab x 9223372036854775808 := by unfold R64 at h; unfold Ab; omega
def sqW (a b : Pt) : Int := IntKind.i64.wrap (b.x - a.x) * IntKind.i64.wrap (b.x - a.x) + IntKind.i64.wrap (b.y - a.y) * IntKind.i64.wrap (b.y - a.y)
theorem sqW_ab (a b : Pt) : Ab (sqW a b) 170141183460469231731687303715884105728 := by
  have h1 := (wrap_r6 (b.x - a.x)).ab6
  have h2 := (wrap_r6 (b.y - a.y)).ab6
  exact ((h1.mul h1).add (h2.mul h2)).le (by decide)
theorem sqW_is {a b : Pt} (ha : fitB a = true) (hb : fitB b = true) : sqW a b = sqZ a b := by
  have h1 := dif_r ha hb
  unfold R64 at h1
  unfold sqW sqZ
  rw [IntWalk.i64_in _ (by omega), IntWalk.i64_in _ (by omega)]

set_option maxHeartbeats 4000000 in
set_option maxRecDepth 100000 in
theorem square_n (a b : Pt) (w : World) : Calls Try.prog 34 #[.agg #[.int .i64 a.x, .int .i64 a.y], .agg #[.int .i64 b.x, .int .i64 b.y]] w (NumP (sqW a b) w) := by
  unfold sqW
  obtain ⟨dx, hx⟩ : ∃ x, IntKind.i64.wrap (b.x - a.x) = x := ⟨_, rfl⟩
  obtain ⟨dy, hy⟩ : ∃ x, IntKind.i64.wrap (b.y - a.y) = x := ⟨_, rfl⟩
  have Rx : Hid (R64 dx) := by have := wrap_r6 (b.x - a.x); rw [hx] at this; exact this
  have Ry : Hid (R64 dy) := by have := wrap_r6 (b.y - a.y); rw [hy] at this; exact this
  have Bx := Lib.hid (Rx.out.ab6.big (by decide))
  have By := Lib.hid (Ry.out.ab6.big (by decide))
  have BX := Lib.hid ((Rx.out.ab6.mul Rx.out.ab6).big (by decide))
  have BY := Lib.hid ((Ry.out.ab6.mul Ry.out.ab6).big (by decide))
  rw [hx, hy]
  go_enter Try.func34, Try.ntmps34
  go_upto_region 1 with (fail)
  refine wp_abs (fun W => (fun W => Var W (w.heap.size) [.int .i64 a.x, .int .i64 a.y] ∧ Var W (w.heap.size + 1) [.int .i64 b.x, .int .i64 b.y] ∧ Grew w 3 W) W ∧ Var W (w.heap.size + 1 + 1) [.bool false, .slice none 0 0]) ?_ ?_
  · exact ⟨⟨(var2_new _ _ _ _ _ rfl).below (bl_alloc (bl_one _ _) _), (var2_new _ _ _ _ _ (by simp)).below (bl_one _ _), by repeat (first | (with_reducible exact Below.refl _ _) | (with_reducible refine bl_alloc ?_ _) | (with_reducible refine Below.drew ?_) | (with_reducible refine below_drewN' ?_ _) | ((with_reducible refine bl_set ?_ ?_ _); (rotate_left; (dsimp only; omega)))), by simp⟩, var2_new _ _ _ _ _ (by simp)⟩
  rintro W0 ⟨hS0, hr⟩
  have HS0 := Lib.hid hS0
  have HR := Lib.hid hr
  clear hS0 hr
  go_cut [5] (fun p W => ∃ (g5 : Nat) (m5 : Bool) (ad5 : Option Addr) (n5 c5 : Nat), p = .pointer (some ⟨g5, 0, none⟩) ∧ w.heap.size + 3 ≤ g5 ∧ Var W g5 [.bool m5, .slice ad5 n5 c5] ∧ NumIs (.agg #[.bool m5, .slice ad5 n5 c5]) (dx) W ∧ Var W (w.heap.size + 1 + 1) [.bool false, .slice none 0 0] ∧ (fun W => Var W (w.heap.size) [.int .i64 a.x, .int .i64 a.y] ∧ Var W (w.heap.size + 1) [.int .i64 b.x, .int .i64 b.y] ∧ Grew w 3 W) W)
  case first =>
    obtain ⟨c0, c1⟩ := HS0.out.1.two
    obtain ⟨c2, c3⟩ := HS0.out.2.1.two
    clear hy
    go_wp2_with fail
    (with_reducible refine (num_n dx Rx.out _).mono ?_); rintro e w1 ⟨v, rfl, hN, hb1⟩
    obtain ⟨m, ad, n, c, rfl⟩ := hN.shape
    have HN := Lib.hid hN
    clear hN
    go_wp2_with fail
    go_meet
    case rel => exact ⟨_, _, _, _, _, rfl, (HS0.out.2.2.below hb1).sz, var2_new _ _ _ _ _ rfl, HN.out.below (bl_one _ _), HR.out.below (bl_trans hb1 (bl_one _ _)), ⟨HS0.out.1.below (bl_trans hb1 (bl_one _ _)), HS0.out.2.1.below (bl_trans hb1 (bl_one _ _)), HS0.out.2.2.below (bl_trans hb1 (bl_one _ _))⟩⟩
  case rest =>
  obtain ⟨g5, m5, ad5, n5, c5, rfl, ge5, v5, hN5, hr, hS0⟩ := hcut
  clear HS0 HR
  have HS0 := Lib.hid hS0
  have HR := Lib.hid hr
  have HV5 := Lib.hid v5
  have HN5 := Lib.hid hN5
  clear hS0 hr v5 hN5 hx
  go_upto_region 2 with (fail)
  go_cut [6] (fun p W => ∃ (g6 : Nat) (m6 : Bool) (ad6 : Option Addr) (n6 c6 : Nat), p = .pointer (some ⟨g6, 0, none⟩) ∧ w.heap.size + 3 ≤ g6 ∧ Var W g6 [.bool m6, .slice ad6 n6 c6] ∧ NumIs (.agg #[.bool m6, .slice ad6 n6 c6]) (dy) W ∧ Var W (w.heap.size + 1 + 1) [.bool false, .slice none 0 0] ∧ Var W g5 [.bool m5, .slice ad5 n5 c5] ∧ NumIs (.agg #[.bool m5, .slice ad5 n5 c5]) dx W ∧ (fun W => Var W (w.heap.size) [.int .i64 a.x, .int .i64 a.y] ∧ Var W (w.heap.size + 1) [.int .i64 b.x, .int .i64 b.y] ∧ Grew w 3 W) W)
  case first =>
    obtain ⟨c0, c1⟩ := HS0.out.1.two
    obtain ⟨c2, c3⟩ := HS0.out.2.1.two
    go_wp2_with fail
    (with_reducible refine (num_n dy Ry.out _).mono ?_); rintro e w1 ⟨v, rfl, hN, hb1⟩
    obtain ⟨m, ad, n, c, rfl⟩ := hN.shape
    have HN := Lib.hid hN
    clear hN
    go_wp2_with fail
    go_meet
    case rel => exact ⟨_, _, _, _, _, rfl, (HS0.out.2.2.below hb1).sz, var2_new _ _ _ _ _ rfl, HN.out.below (bl_one _ _), HR.out.below (bl_trans hb1 (bl_one _ _)), HV5.out.below (bl_trans hb1 (bl_one _ _)), HN5.out.below (bl_trans hb1 (bl_one _ _)), ⟨HS0.out.1.below (bl_trans hb1 (bl_one _ _)), HS0.out.2.1.below (bl_trans hb1 (bl_one _ _)), HS0.out.2.2.below (bl_trans hb1 (bl_one _ _))⟩⟩
  case rest =>
  obtain ⟨g6, m6, ad6, n6, c6, rfl, ge6, v6, hN6, hr, v5, hN5, hS0⟩ := hcut
  clear HS0 HR HV5 HN5
  have HS3 : Hid ((fun W => Var W (g5) [.bool m5, .slice ad5 n5 c5] ∧ Var W (g6) [.bool m6, .slice ad6 n6 c6] ∧ Grew w 3 W) _) := ⟨v5, v6, hS0.2.2⟩
  have HR := Lib.hid hr
  have HN5 := Lib.hid hN5
  have HN6 := Lib.hid hN6
  clear hS0 hr v5 v6 hN5 hN6 hy
  go_upto_region 3 with (fail)
  refine wp_region_held_drew (S := fun W => Var W (g5) [.bool m5, .slice ad5 n5 c5] ∧ Var W (g6) [.bool m6, .slice ad6 n6 c6] ∧ Grew w 3 W) (by kernel_rfl) ?_ (fun q1 => ?_)
  · exact ⟨HS3.out.1.below (bel_drew _), HS3.out.2.1.below (bel_drew _), HS3.out.2.2.below (bel_drew _)⟩
  replace HR := Lib.hid (HR.out.below (bel_drew _))
  replace HN5 := Lib.hid (HN5.out.below (bel_drew _))
  replace HN6 := Lib.hid (HN6.out.below (bel_drew _))
  revert HR
  revert HN5
  revert HN6
  revert q1
  generalize World.drew _ = W1
  intro q1 HN6 HN5 HR
  refine tk (i := 0) (v := ?_) rfl (Or.inl ⟨by rfl, ?_⟩) ?_
  rotate_left
  · intro Wq hSw
    obtain ⟨k0, k1⟩ := (id hSw).1.two
    clear hSw
    go_simp
    all_goals (with_reducible rfl)
  try simp only [Act.put, x2, x4, x5, x6, x7]
  refine tk (i := 1) (v := ?_) rfl (Or.inl ⟨by rfl, ?_⟩) ?_
  rotate_left
  · intro Wq hSw
    obtain ⟨k0, k1⟩ := (id hSw).1.two
    clear hSw
    go_simp
    all_goals (with_reducible rfl)
  try simp only [Act.put, x2, x3, x4, x5, x6, x7]
  refine tk (i := 3) (v := ?_) rfl (Or.inl ⟨by rfl, ?_⟩) ?_
  rotate_left
  · intro Wq hSw
    obtain ⟨k0, k1⟩ := (id hSw).2.1.two
    clear hSw
    go_simp
    all_goals (with_reducible rfl)
  try simp only [Act.put, x2, x3, x4, x5, x6, x7]
  refine tk (i := 4) (v := ?_) rfl (Or.inl ⟨by rfl, ?_⟩) ?_
  rotate_left
  · intro Wq hSw
    obtain ⟨k0, k1⟩ := (id hSw).2.1.two
    clear hSw
    go_simp
    all_goals (with_reducible rfl)
  try simp only [Act.put, x2, x3, x4, x5, x6, x7]
  refine wpAnyH_ready (rs := [2]) (by kernel_rfl) (by simp) ?_
  refine (AllReadyH.cons rfl (fun K hK => ?_) AllReadyH.nil)
  rw [if_pos (by rfl)]
  go_simp
  go_at_call 36
  (with_reducible refine (times_num _ _ dx dx _ HN5.out HN5.out Bx.out Bx.out).mono ?_); rintro e w1 ⟨va, rfl, hNa, hb1⟩
  obtain ⟨ma, ada, na, ca, rfl⟩ := hNa.shape
  have HNa := Lib.hid hNa
  clear hNa
  go_wp2_with fail
  refine hK.out _ _ ?_ (fun q2 => ?_)
  · exact ⟨(id q1).1.below hb1, (id q1).2.1.below hb1, (id q1).2.2.below hb1⟩
  replace HR := Lib.hid (HR.out.below hb1)
  replace HN5 := Lib.hid (HN5.out.below hb1)
  replace HN6 := Lib.hid (HN6.out.below hb1)
  clear hK K q1 hb1
  have q1 := q2
  clear q2
  try simp only [Act.put, x2, x3, x4, x5, x6, x7]
  refine wpAnyH_ready (rs := [5]) (by kernel_rfl) (by simp) ?_
  refine (AllReadyH.cons rfl (fun K hK => ?_) AllReadyH.nil)
  rw [if_pos (by rfl)]
  go_simp
  go_at_call 36
  (with_reducible refine (times_num _ _ dy dy _ HN6.out HN6.out By.out By.out).mono ?_); rintro e w1 ⟨vb, rfl, hNb, hb1⟩
  obtain ⟨mb, adb, nb, cb, rfl⟩ := hNb.shape
  have HNb := Lib.hid hNb
  clear hNb
  go_wp2_with fail
  refine hK.out _ _ ?_ (fun q2 => ?_)
  · exact ⟨(id q1).1.below hb1, (id q1).2.1.below hb1, (id q1).2.2.below hb1⟩
  replace HR := Lib.hid (HR.out.below hb1)
  replace HN5 := Lib.hid (HN5.out.below hb1)
  replace HN6 := Lib.hid (HN6.out.below hb1)
  replace HNa := Lib.hid (HNa.out.below hb1)
  clear hK K q1 hb1
  have q1 := q2
  clear q2
  try simp only [Act.put, x2, x3, x4, x5, x6, x7]
  refine wpAnyH_ready (rs := [6]) (by kernel_rfl) (by simp) ?_
  refine (AllReadyH.cons rfl (fun K hK => ?_) AllReadyH.nil)
  rw [if_pos (by rfl)]
  go_simp
  go_at_call 38
  (with_reducible refine (plus_c _ _ (dx * dx) (dy * dy) _ HNa.out HNb.out BX.out BY.out).mono ?_); rintro e w1 ⟨vs, rfl, hNs, hb1⟩
  obtain ⟨ms, ads, ns, cs, rfl⟩ := hNs.shape
  have HNs := Lib.hid hNs
  clear hNs
  go_wp2_with fail
  refine hK.out _ _ ?_ (fun q2 => ?_)
  · exact ⟨(id q1).1.below hb1, (id q1).2.1.below hb1, (id q1).2.2.below hb1⟩
  replace HR := Lib.hid (HR.out.below hb1)
  replace HN5 := Lib.hid (HN5.out.below hb1)
  replace HN6 := Lib.hid (HN6.out.below hb1)
  replace HNa := Lib.hid (HNa.out.below hb1)
  replace HNb := Lib.hid (HNb.out.below hb1)
  clear hK K q1 hb1
  have q1 := q2
  clear q2
  try simp only [Act.put, x2, x3, x4, x5, x6, x7]
  refine wpAnyH_ready (rs := [7]) (by kernel_rfl) (by simp) ?_
  refine (AllReadyH.cons rfl (fun K hK => ?_) AllReadyH.nil)
  rw [if_pos (by rfl)]
  obtain ⟨k0, k1⟩ := HR.out.two
  obtain ⟨f0, f1⟩ := HR.out.free2
  go_simp
  refine hK.out _ _ ?_ (fun q2 => ?_)
  · exact ⟨(((id q1).1.far (by dsimp only; omega) _).far (by dsimp only; omega) _), (((id q1).2.1.far (by dsimp only; omega) _).far (by dsimp only; omega) _), (((id q1).2.2.set (by dsimp only; omega) _).set (by dsimp only; omega) _)⟩
  replace HN5 := Lib.hid (HN5.out.res HR.out (ms) (.slice ads ns cs))
  replace HN6 := Lib.hid (HN6.out.res HR.out (ms) (.slice ads ns cs))
  replace HNa := Lib.hid (HNa.out.res HR.out (ms) (.slice ads ns cs))
  replace HNb := Lib.hid (HNb.out.res HR.out (ms) (.slice ads ns cs))
  replace HNs := Lib.hid (HNs.out.res HR.out (ms) (.slice ads ns cs))
  replace HR := Lib.hid (HR.out.set2 (.bool ms) (.slice ads ns cs))
  clear hK K q1 k0 k1 f0 f1
  have q1 := q2
  clear q2
  try simp only [Act.put, x2, x3, x4, x5, x6, x7]
  refine wpAnyH_done (by kernel_rfl) ?_ _
  go_wp2_with fail
  obtain ⟨k0, k1⟩ := HR.out.two
  refine bodyPost_ret (v := .agg #[.bool ms, .slice ads ns cs]) (by simp [results, Try.results34, go_sem, k0, k1]; done) rfl ⟨_, rfl, HNs.out, (id q1).2.2.hb⟩

set_option maxHeartbeats 4000000 in
set_option maxRecDepth 100000 in
theorem cmp_n (u0 u1 : Value) (z0 z1 : Int) (hb0 : -BIG < z0 ∧ z0 < BIG) (hb1 : -BIG < z1 ∧ z1 < BIG) (w : World) (h0 : NumIs u0 z0 w) (h1 : NumIs u1 z1 w) : Calls Try.prog 40 #[u0, u1] w (Gives (.int .i64 (sg3 (z0 - z1))) w) := by
  obtain ⟨m0, ad0, n0, c0, rfl⟩ := h0.shape
  have HI0 := Lib.hid h0
  clear h0
  obtain ⟨m1, ad1, n1, c1, rfl⟩ := h1.shape
  have HI1 := Lib.hid h1
  clear h1
  have HB : Hid ((-BIG < z0 ∧ z0 < BIG) ∧ (-BIG < -z1 ∧ -z1 < BIG)) := ⟨hb0, by omega⟩
  have hs : sg3 (z0 - z1) = sgZ (z0 + -z1) := rfl
  rw [hs]
  clear hb0 hb1 hs
  go_enter Try.func40, Try.ntmps40
  go_upto_region 1 with (fail)
  refine wp_abs (fun W => Var W (w.heap.size) [.bool m0, .slice ad0 n0 c0] ∧ Var W (w.heap.size + 1) [.bool m1, .slice ad1 n1 c1] ∧ Grew w 2 W) ?_ ?_
  · exact ⟨(var2_new _ _ _ _ _ rfl).below (bl_one _ _), var2_new _ _ _ _ _ (by simp), by repeat (first | (with_reducible exact Below.refl _ _) | (with_reducible refine bl_alloc ?_ _) | (with_reducible refine Below.drew ?_) | (with_reducible refine below_drewN' ?_ _) | ((with_reducible refine bl_set ?_ ?_ _); (rotate_left; (dsimp only; omega)))), by simp⟩
  rintro W0 hS0
  have HS0 := Lib.hid hS0
  replace HI0 := Lib.hid (HI0.out.below hS0.2.2.hb)
  replace HI1 := Lib.hid (HI1.out.below hS0.2.2.hb)
  clear hS0
  refine wp_region_held_drew (S := fun W => Var W (w.heap.size) [.bool m0, .slice ad0 n0 c0] ∧ Var W (w.heap.size + 1) [.bool m1, .slice ad1 n1 c1] ∧ Grew w 2 W) (by kernel_rfl) ?_ (fun q1 => ?_)
  · exact ⟨HS0.out.1.below (bel_drew _), HS0.out.2.1.below (bel_drew _), HS0.out.2.2.below (bel_drew _)⟩
  replace HI0 := Lib.hid (HI0.out.below (bel_drew _))
  replace HI1 := Lib.hid (HI1.out.below (bel_drew _))
  revert HI0
  revert HI1
  revert q1
  generalize World.drew _ = W1
  intro q1 HI1 HI0
  refine tk (i := 0) (v := ?_) rfl (Or.inl ⟨by rfl, ?_⟩) ?_
  rotate_left
  · intro Wq hSw
    obtain ⟨k0, k1⟩ := (id hSw).1.two
    clear hSw
    go_simp
    all_goals (with_reducible rfl)
  try simp only [Act.put, x2, x4, x5, x6, x7]
  refine tk (i := 1) (v := ?_) rfl (Or.inl ⟨by rfl, ?_⟩) ?_
  rotate_left
  · intro Wq hSw
    obtain ⟨k0, k1⟩ := (id hSw).2.1.two
    clear hSw
    go_simp
    all_goals (with_reducible rfl)
  try simp only [Act.put, x2, x3, x4, x5, x6, x7]
  refine wpAnyH_ready (rs := [2]) (by kernel_rfl) (by simp) ?_
  refine (AllReadyH.cons rfl (fun K hK => ?_) AllReadyH.nil)
  rw [if_pos (by rfl)]
  go_simp
  go_at_call 39
  (with_reducible refine (neg_num _ z1 _ HI1.out).mono ?_); rintro e w1 ⟨va, rfl, hNa, hb1⟩
  obtain ⟨ma, ada, na, ca, rfl⟩ := hNa.shape
  have HNa := Lib.hid hNa
  clear hNa
  go_wp2_with fail
  refine hK.out _ _ ?_ (fun q2 => ?_)
  · exact ⟨(id q1).1.below hb1, (id q1).2.1.below hb1, (id q1).2.2.below hb1⟩
  replace HI0 := Lib.hid (HI0.out.below hb1)
  replace HI1 := Lib.hid (HI1.out.below hb1)
  clear hK K q1 hb1
  have q1 := q2
  clear q2
  try simp only [Act.put, x2, x3, x4, x5, x6, x7]
  refine wpAnyH_ready (rs := [3]) (by kernel_rfl) (by simp) ?_
  refine (AllReadyH.cons rfl (fun K hK => ?_) AllReadyH.nil)
  rw [if_pos (by rfl)]
  go_simp
  go_at_call 38
  (with_reducible refine (plus_c _ _ z0 (-z1) _ HI0.out HNa.out HB.out.1 HB.out.2).mono ?_); rintro e w1 ⟨vb, rfl, hNb, hb1⟩
  obtain ⟨mb, adb, nb, cb, rfl⟩ := hNb.shape
  have HNb := Lib.hid hNb
  clear hNb
  go_wp2_with fail
  refine hK.out _ _ ?_ (fun q2 => ?_)
  · exact ⟨(id q1).1.below hb1, (id q1).2.1.below hb1, (id q1).2.2.below hb1⟩
  replace HI0 := Lib.hid (HI0.out.below hb1)
  replace HI1 := Lib.hid (HI1.out.below hb1)
  replace HNa := Lib.hid (HNa.out.below hb1)
  clear hK K q1 hb1
  have q1 := q2
  clear q2
  try simp only [Act.put, x2, x3, x4, x5, x6, x7]
  refine wpAnyH_ready (rs := [4]) (by kernel_rfl) (by simp) ?_
  refine (AllReadyH.cons rfl (fun K hK => ?_) AllReadyH.nil)
  rw [if_pos (by rfl)]
  go_simp
  go_at_call 58
  (with_reducible refine (sign_num _ _ _ HNb.out).mono ?_)
  rintro e w1 ⟨rfl, hb1⟩
  go_wp2_with fail
  refine hK.out _ _ ?_ (fun q2 => ?_)
  · exact ⟨(id q1).1.below hb1, (id q1).2.1.below hb1, (id q1).2.2.below hb1⟩
  replace HI0 := Lib.hid (HI0.out.below hb1)
  replace HI1 := Lib.hid (HI1.out.below hb1)
  replace HNa := Lib.hid (HNa.out.below hb1)
  replace HNb := Lib.hid (HNb.out.below hb1)
  clear hK K q1 hb1
  have q1 := q2
  clear q2
  try simp only [Act.put, x2, x3, x4, x5, x6, x7]
  refine tk (i := 5) (v := ?_) rfl (Or.inl ⟨by rfl, ?_⟩) ?_
  rotate_left
  · intro Wq hSw
    clear hSw
    go_simp
    all_goals (with_reducible rfl)
  try simp only [Act.put, x2, x3, x4, x5, x6, x7]
  refine wpAnyH_done (by kernel_rfl) ?_ _
  go_wp2_with fail
  go_ret
  exact ⟨rfl, (id q1).2.2.hb⟩
end Go.Proofs.Ytojfggnimmaemaa

/-
  Contract of the document's InDisc.
-/
namespace Go.Proofs.Ytojfggnimmaemaa
open Go.RowKit

set_option maxHeartbeats 8000000 in
set_option maxRecDepth 100000 in
theorem refDisc_l (a b p : Pt) (w : World) : Calls Try.prog 25 #[.agg #[.int .i64 a.x, .int .i64 a.y], .agg #[.int .i64 b.x, .int .i64 b.y], .agg #[.int .i64 p.x, .int .i64 p.y]] w (Gives (.bool (discB a b p)) w) := by
  have E1 := eqPt p a
  have E2 := eqPt p b
  have C1 := Lib.hid (fun W => refFits3_l a W)
  have C2 := Lib.hid (fun W => refFits3_l b W)
  have C3 := Lib.hid (fun W => refFits3_l p W)
  have S1 := Lib.hid (fun W => square_n a p W)
  have S2 := Lib.hid (fun W => square_n p b W)
  have S3 := Lib.hid (fun W => square_n a b W)
  have Bx := Lib.hid ((sqW_ab a p).big (by decide))
  have By := Lib.hid ((sqW_ab p b).big (by decide))
  have Bz := Lib.hid ((sqW_ab a b).big (by decide))
  have Bs := Lib.hid (((sqW_ab a p).add (sqW_ab p b)).big (by decide))
  have HP : Hid (discB a b p = (fitB a && fitB b && fitB p && !(decide (p = a)) && !(decide (p = b)) && decide (sg3 (sqW a p + sqW p b - sqW a b) ≤ 0))) := by
    unfold Hid discB
    cases fa : fitB a
    case false => rfl
    cases fb : fitB b
    case false => rfl
    cases fp : fitB p
    case false => rfl
    rw [sqW_is fa fp, sqW_is fp fb, sqW_is fa fb]
    congr 1
    apply decide_eq_decide.2
    have e : sqZ a p + sqZ p b - sqZ a b = 2 * dotZ a b p := by unfold sqZ dotZ; grind
    rw [e]
    rcases sg3_vals (2 * dotZ a b p) with ⟨h, e⟩ | ⟨h, e⟩ | ⟨h, e⟩ <;> rw [e] <;> omega
  generalize sqW a p = zx at *
  generalize sqW p b = zy at *
  generalize sqW a b = zz at *
  generalize fitB a = fa at *
  generalize fitB b = fb at *
  generalize fitB p = fp at *
  generalize decide (p = a) = e1 at *
  generalize decide (p = b) = e2 at *
  go_enter Try.func25, Try.ntmps25
  go_upto_region 1 with (fail)
  refine wp_abs (fun W => Var W (w.heap.size) [.int .i64 a.x, .int .i64 a.y] ∧ Var W (w.heap.size + 1) [.int .i64 b.x, .int .i64 b.y] ∧ Var W (w.heap.size + 1 + 1) [.int .i64 p.x, .int .i64 p.y] ∧ Grew w 3 W) ?_ ?_
  · exact ⟨(var2_new _ _ _ _ _ rfl).below (bl_alloc (bl_one _ _) _), (var2_new _ _ _ _ _ (by simp)).below (bl_one _ _), var2_new _ _ _ _ _ (by simp), by repeat (first | (with_reducible exact Below.refl _ _) | (with_reducible refine bl_alloc ?_ _) | (with_reducible refine Below.drew ?_) | (with_reducible refine below_drewN' ?_ _) | ((with_reducible refine bl_set ?_ ?_ _); (rotate_left; (dsimp only; omega)))), by simp⟩
  rintro W0 hS0
  have HS0 := Lib.hid hS0
  clear hS0
  obtain ⟨c0, c1⟩ := HS0.out.1.two
  obtain ⟨c2, c3⟩ := HS0.out.2.1.two
  obtain ⟨c4, c5⟩ := HS0.out.2.2.1.two
  go_wp2_with fail
  (with_reducible refine (C1.out _).mono ?_); rintro e w1 ⟨rfl, hb1⟩
  replace HS0 : Hid ((fun W => Var W (w.heap.size) [.int .i64 a.x, .int .i64 a.y] ∧ Var W (w.heap.size + 1) [.int .i64 b.x, .int .i64 b.y] ∧ Var W (w.heap.size + 1 + 1) [.int .i64 p.x, .int .i64 p.y] ∧ Grew w 3 W) w1) := ⟨HS0.out.1.below hb1, HS0.out.2.1.below hb1, HS0.out.2.2.1.below hb1, HS0.out.2.2.2.below hb1⟩
  clear c0 c1 c2 c3 c4 c5 hb1
  obtain ⟨c0, c1⟩ := HS0.out.1.two
  obtain ⟨c2, c3⟩ := HS0.out.2.1.two
  obtain ⟨c4, c5⟩ := HS0.out.2.2.1.two
  cases fa
  case false =>
    clear E1 E2
    go_wp2
    go_ret
    exact ⟨by rw [HP.out]; simp, HS0.out.2.2.2.hb⟩
  case true =>
  go_wp2_with fail
  (with_reducible refine (C2.out _).mono ?_); rintro e w1 ⟨rfl, hb1⟩
  replace HS0 : Hid ((fun W => Var W (w.heap.size) [.int .i64 a.x, .int .i64 a.y] ∧ Var W (w.heap.size + 1) [.int .i64 b.x, .int .i64 b.y] ∧ Var W (w.heap.size + 1 + 1) [.int .i64 p.x, .int .i64 p.y] ∧ Grew w 3 W) w1) := ⟨HS0.out.1.below hb1, HS0.out.2.1.below hb1, HS0.out.2.2.1.below hb1, HS0.out.2.2.2.below hb1⟩
  clear c0 c1 c2 c3 c4 c5 hb1
  obtain ⟨c0, c1⟩ := HS0.out.1.two
  obtain ⟨c2, c3⟩ := HS0.out.2.1.two
  obtain ⟨c4, c5⟩ := HS0.out.2.2.1.two
  cases fb
  case false =>
    clear E1 E2
    go_wp2
    go_ret
    exact ⟨by rw [HP.out]; simp, HS0.out.2.2.2.hb⟩
  case true =>
  go_wp2_with fail
  (with_reducible refine (C3.out _).mono ?_); rintro e w1 ⟨rfl, hb1⟩
  replace HS0 : Hid ((fun W => Var W (w.heap.size) [.int .i64 a.x, .int .i64 a.y] ∧ Var W (w.heap.size + 1) [.int .i64 b.x, .int .i64 b.y] ∧ Var W (w.heap.size + 1 + 1) [.int .i64 p.x, .int .i64 p.y] ∧ Grew w 3 W) w1) := ⟨HS0.out.1.below hb1, HS0.out.2.1.below hb1, HS0.out.2.2.1.below hb1, HS0.out.2.2.2.below hb1⟩
  clear c0 c1 c2 c3 c4 c5 hb1
  obtain ⟨c0, c1⟩ := HS0.out.1.two
  obtain ⟨c2, c3⟩ := HS0.out.2.1.two
  obtain ⟨c4, c5⟩ := HS0.out.2.2.1.two
  cases fp
  case false =>
    clear E1 E2
    go_wp2
    go_ret
    exact ⟨by rw [HP.out]; simp, HS0.out.2.2.2.hb⟩
  case true =>
  cases e1
  case true =>
    go_wp2
    go_ret
    exact ⟨by rw [HP.out]; simp, HS0.out.2.2.2.hb⟩
  case false =>
  cases e2
  case true =>
    go_wp2
    go_ret
    exact ⟨by rw [HP.out]; simp, HS0.out.2.2.2.hb⟩
  case false =>
  clear C1 C2 C3
  go_upto_region 3 with (fail)
  clear c0 c1 c2 c3 c4 c5
  refine wp_region_held_drew (S := fun W => Var W (w.heap.size) [.int .i64 a.x, .int .i64 a.y] ∧ Var W (w.heap.size + 1) [.int .i64 b.x, .int .i64 b.y] ∧ Var W (w.heap.size + 1 + 1) [.int .i64 p.x, .int .i64 p.y] ∧ Grew w 3 W) (by kernel_rfl) ?_ (fun q1 => ?_)
  · exact ⟨HS0.out.1.below (bel_drew _), HS0.out.2.1.below (bel_drew _), HS0.out.2.2.1.below (bel_drew _), HS0.out.2.2.2.below (bel_drew _)⟩
  revert q1
  generalize World.drew _ = W1
  intro q1 
  refine tk (i := 0) (v := ?_) rfl (Or.inl ⟨by rfl, ?_⟩) ?_
  rotate_left
  · intro Wq hSw
    obtain ⟨k0, k1⟩ := (id hSw).1.two
    clear hSw
    go_simp
    all_goals (with_reducible rfl)
  try simp only [Act.put, x2, x4, x5, x6, x7]
  refine tk (i := 1) (v := ?_) rfl (Or.inl ⟨by rfl, ?_⟩) ?_
  rotate_left
  · intro Wq hSw
    obtain ⟨k0, k1⟩ := (id hSw).2.2.1.two
    clear hSw
    go_simp
    all_goals (with_reducible rfl)
  try simp only [Act.put, x2, x3, x4, x5, x6, x7]
  refine tk (i := 3) (v := ?_) rfl (Or.inl ⟨by rfl, ?_⟩) ?_
  rotate_left
  · intro Wq hSw
    obtain ⟨k0, k1⟩ := (id hSw).2.2.1.two
    clear hSw
    go_simp
    all_goals (with_reducible rfl)
  try simp only [Act.put, x2, x3, x4, x5, x6, x7]
  refine tk (i := 4) (v := ?_) rfl (Or.inl ⟨by rfl, ?_⟩) ?_
  rotate_left
  · intro Wq hSw
    obtain ⟨k0, k1⟩ := (id hSw).2.1.two
    clear hSw
    go_simp
    all_goals (with_reducible rfl)
  try simp only [Act.put, x2, x3, x4, x5, x6, x7]
  refine tk (i := 7) (v := ?_) rfl (Or.inl ⟨by rfl, ?_⟩) ?_
  rotate_left
  · intro Wq hSw
    obtain ⟨k0, k1⟩ := (id hSw).1.two
    clear hSw
    go_simp
    all_goals (with_reducible rfl)
  try simp only [Act.put, x2, x3, x4, x5, x6, x7]
  refine tk (i := 8) (v := ?_) rfl (Or.inl ⟨by rfl, ?_⟩) ?_
  rotate_left
  · intro Wq hSw
    obtain ⟨k0, k1⟩ := (id hSw).2.1.two
    clear hSw
    go_simp
    all_goals (with_reducible rfl)
  try simp only [Act.put, x2, x3, x4, x5, x6, x7]
  refine wpAnyH_ready (rs := [2]) (by kernel_rfl) (by simp) ?_
  refine (AllReadyH.cons rfl (fun K hK => ?_) AllReadyH.nil)
  rw [if_pos (by rfl)]
  go_simp
  go_at_call 34
  (with_reducible refine (S1.out _).mono ?_); rintro e w1 ⟨vx, rfl, hNx, hb1⟩
  obtain ⟨mx, adx, nx, cx, rfl⟩ := hNx.shape
  have HNx := Lib.hid hNx
  clear hNx
  go_wp2_with fail
  refine hK.out _ _ ?_ (fun q2 => ?_)
  · exact ⟨(id q1).1.below hb1, (id q1).2.1.below hb1, (id q1).2.2.1.below hb1, (id q1).2.2.2.below hb1⟩
  clear hK K q1 hb1
  have q1 := q2
  clear q2
  try simp only [Act.put, x2, x3, x4, x5, x6, x7]
  refine wpAnyH_ready (rs := [5]) (by kernel_rfl) (by simp) ?_
  refine (AllReadyH.cons rfl (fun K hK => ?_) AllReadyH.nil)
  rw [if_pos (by rfl)]
  go_simp
  go_at_call 34
  (with_reducible refine (S2.out _).mono ?_); rintro e w1 ⟨vy, rfl, hNy, hb1⟩
  obtain ⟨my, ady, ny, cy, rfl⟩ := hNy.shape
  have HNy := Lib.hid hNy
  clear hNy
  go_wp2_with fail
  refine hK.out _ _ ?_ (fun q2 => ?_)
  · exact ⟨(id q1).1.below hb1, (id q1).2.1.below hb1, (id q1).2.2.1.below hb1, (id q1).2.2.2.below hb1⟩
  replace HNx := Lib.hid (HNx.out.below hb1)
  clear hK K q1 hb1
  have q1 := q2
  clear q2
  try simp only [Act.put, x2, x3, x4, x5, x6, x7]
  refine wpAnyH_ready (rs := [6]) (by kernel_rfl) (by simp) ?_
  refine (AllReadyH.cons rfl (fun K hK => ?_) AllReadyH.nil)
  rw [if_pos (by rfl)]
  go_simp
  go_at_call 38
  (with_reducible refine (plus_c _ _ zx zy _ HNx.out HNy.out Bx.out By.out).mono ?_); rintro e w1 ⟨vs, rfl, hNs, hb1⟩
  obtain ⟨ms, ads, ns, cs, rfl⟩ := hNs.shape
  have HNs := Lib.hid hNs
  clear hNs
  go_wp2_with fail
  refine hK.out _ _ ?_ (fun q2 => ?_)
  · exact ⟨(id q1).1.below hb1, (id q1).2.1.below hb1, (id q1).2.2.1.below hb1, (id q1).2.2.2.below hb1⟩
  replace HNx := Lib.hid (HNx.out.below hb1)
  replace HNy := Lib.hid (HNy.out.below hb1)
  clear hK K q1 hb1
  have q1 := q2
  clear q2
  try simp only [Act.put, x2, x3, x4, x5, x6, x7]
  refine wpAnyH_ready (rs := [9]) (by kernel_rfl) (by simp) ?_
  refine (AllReadyH.cons rfl (fun K hK => ?_) AllReadyH.nil)
  rw [if_pos (by rfl)]
  go_simp
  go_at_call 34
  (with_reducible refine (S3.out _).mono ?_); rintro e w1 ⟨vz, rfl, hNz, hb1⟩
  obtain ⟨mz, adz, nz, cz, rfl⟩ := hNz.shape
  have HNz := Lib.hid hNz
  clear hNz
  go_wp2_with fail
  refine hK.out _ _ ?_ (fun q2 => ?_)
  · exact ⟨(id q1).1.below hb1, (id q1).2.1.below hb1, (id q1).2.2.1.below hb1, (id q1).2.2.2.below hb1⟩
  replace HNx := Lib.hid (HNx.out.below hb1)
  replace HNy := Lib.hid (HNy.out.below hb1)
  replace HNs := Lib.hid (HNs.out.below hb1)
  clear hK K q1 hb1
  have q1 := q2
  clear q2
  try simp only [Act.put, x2, x3, x4, x5, x6, x7]
  refine wpAnyH_ready (rs := [10]) (by kernel_rfl) (by simp) ?_
  refine (AllReadyH.cons rfl (fun K hK => ?_) AllReadyH.nil)
  rw [if_pos (by rfl)]
  go_simp
  go_at_call 40
  (with_reducible refine (cmp_n _ _ (zx + zy) zz Bs.out Bz.out _ HNs.out HNz.out).mono ?_)
  rintro e w1 ⟨rfl, hb1⟩
  go_wp2_with fail
  refine hK.out _ _ ?_ (fun q2 => ?_)
  · exact ⟨(id q1).1.below hb1, (id q1).2.1.below hb1, (id q1).2.2.1.below hb1, (id q1).2.2.2.below hb1⟩
  replace HNx := Lib.hid (HNx.out.below hb1)
  replace HNy := Lib.hid (HNy.out.below hb1)
  replace HNs := Lib.hid (HNs.out.below hb1)
  replace HNz := Lib.hid (HNz.out.below hb1)
  clear hK K q1 hb1
  have q1 := q2
  clear q2
  try simp only [Act.put, x2, x3, x4, x5, x6, x7]
  refine tk (i := 11) (v := ?_) rfl (Or.inl ⟨by rfl, ?_⟩) ?_
  rotate_left
  · intro Wq hSw
    clear hSw
    go_simp
    all_goals (with_reducible rfl)
  try simp only [Act.put, x2, x3, x4, x5, x6, x7]
  refine tk (i := 12) (v := ?_) rfl (Or.inl ⟨by rfl, ?_⟩) ?_
  rotate_left
  · intro Wq hSw
    clear hSw
    go_simp
    all_goals (with_reducible rfl)
  try simp only [Act.put, x2, x3, x4, x5, x6, x7]
  refine wpAnyH_done (by kernel_rfl) ?_ _
  go_wp2_with fail
  go_ret
  exact ⟨by rw [HP.out]; rfl, (id q1).2.2.2.hb⟩
end Go.Proofs.Ytojfggnimmaemaa
