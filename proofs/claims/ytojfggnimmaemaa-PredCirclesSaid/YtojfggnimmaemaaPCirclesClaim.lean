/-
  Proved: for every four places the law PredCircles returns true, and its arguments read as they did. No condition.
-/
import Derived.Test.YtojfggnimmaemaaDiscs
import Derived.Test.YtojfggnimmaemaaVars
import Derived.Test.YtojfggnimmaemaaRefFits
import Derived.Test.YtojfggnimmaemaaAreas
import Derived.Test.YtojfggnimmaemaaKnown3
/-
  Contract of the document's lift.
-/
namespace Go.Proofs.Ytojfggnimmaemaa
open Go.RowKit

def sqO (p : Pt) : Int := p.x * p.x + p.y * p.y
def LiftP (p : Pt) (w : World) (e : Ending) (w' : World) : Prop := ∃ v0 v1 v2, e = .returned (.tuple #[v0, v1, v2]) ∧ NumIs v0 p.x w' ∧ NumIs v1 p.y w' ∧ NumIs v2 (sqO p) w' ∧ Below w.heap.size w w'
theorem fit_ab {p : Pt} (h : fitB p = true) : Ab p.x 4294967296 ∧ Ab p.y 4294967296 := by have := fitB_iff.1 h; unfold Pt.fits at this; unfold Ab; omega

set_option maxHeartbeats 8000000 in
set_option maxRecDepth 100000 in
theorem lift_n (p : Pt) (hp : fitB p = true) (w : World) : Calls Try.prog 84 #[.agg #[.int .i64 p.x, .int .i64 p.y]] w (LiftP p w) := by
  have hb := fit_ab hp
  have Rx : Hid (R64 p.x) := hb.1.r64 (by decide)
  have Ry : Hid (R64 p.y) := hb.2.r64 (by decide)
  have Bx := Lib.hid (hb.1.big (by decide))
  have By := Lib.hid (hb.2.big (by decide))
  have BX := Lib.hid ((hb.1.mul hb.1).big (by decide))
  have BY := Lib.hid ((hb.2.mul hb.2).big (by decide))
  clear hb hp
  go_enter Try.func84, Try.ntmps84
  go_upto_region 1 with (fail)
  refine wp_abs (fun W => Var W (w.heap.size) [.int .i64 p.x, .int .i64 p.y] ∧ Var W (w.heap.size + 1) [.bool false, .slice none 0 0] ∧ Var W (w.heap.size + 1 + 1) [.bool false, .slice none 0 0] ∧ Var W (w.heap.size + 1 + 1 + 1) [.bool false, .slice none 0 0] ∧ Grew w 4 W) ?_ ?_
  · exact ⟨(var2_new _ _ _ _ _ rfl).below (bl_alloc (bl_alloc (bl_one _ _) _) _), (var2_new _ _ _ _ _ (by simp)).below (bl_alloc (bl_one _ _) _), (var2_new _ _ _ _ _ (by simp)).below (bl_one _ _), var2_new _ _ _ _ _ (by simp), by repeat (first | (with_reducible exact Below.refl _ _) | (with_reducible refine bl_alloc ?_ _) | (with_reducible refine Below.drew ?_) | (with_reducible refine below_drewN' ?_ _) | ((with_reducible refine bl_set ?_ ?_ _); (rotate_left; (dsimp only; omega)))), by simp⟩
  rintro W0 hS0
  have HS0 := Lib.hid hS0
  clear hS0
  go_upto_region 1 with (fail)
  go_cut [5] (fun pv W => ∃ g5 : Nat, ∃ (m5 : Bool) (ad5 : Option Addr) (n5 c5 : Nat), pv = .pointer (some ⟨g5, 0, none⟩) ∧ (w.heap.size + 4 ≤ g5) ∧ Var W (g5) [.bool m5, .slice ad5 n5 c5] ∧ NumIs (.agg #[.bool m5, .slice ad5 n5 c5]) (p.x) W ∧ (fun W => Var W (w.heap.size) [.int .i64 p.x, .int .i64 p.y] ∧ Var W (w.heap.size + 1) [.bool false, .slice none 0 0] ∧ Var W (w.heap.size + 1 + 1) [.bool false, .slice none 0 0] ∧ Var W (w.heap.size + 1 + 1 + 1) [.bool false, .slice none 0 0] ∧ Grew w 4 W) W)
  case first =>
    obtain ⟨c0_, d0_⟩ := HS0.out.1.two
    obtain ⟨c1_, d1_⟩ := HS0.out.2.1.two
    obtain ⟨c2_, d2_⟩ := HS0.out.2.2.1.two
    obtain ⟨c3_, d3_⟩ := HS0.out.2.2.2.1.two
    go_wp2_with fail
    (with_reducible refine (num_n p.x Rx.out _).mono ?_); rintro e w1 ⟨v, rfl, hN, hb1⟩
    obtain ⟨m, ad, n, c, rfl⟩ := hN.shape
    have HN := Lib.hid hN
    clear hN
    try dsimp only
    go_wp2_with fail
    go_meet
    case rel => exact ⟨_, _, _, _, _, rfl, (HS0.out.2.2.2.2.below hb1).sz, var2_new _ _ _ _ _ rfl, HN.out.below (bl_one _ _), ⟨HS0.out.1.below (bl_trans hb1 (bl_one _ _)), HS0.out.2.1.below (bl_trans hb1 (bl_one _ _)), HS0.out.2.2.1.below (bl_trans hb1 (bl_one _ _)), HS0.out.2.2.2.1.below (bl_trans hb1 (bl_one _ _)), HS0.out.2.2.2.2.below (bl_trans hb1 (bl_one _ _))⟩⟩
  case rest =>
  obtain ⟨g5, m5, ad5, n5, c5, rfl, ge5, vn, hN, hS0⟩ := hcut
  clear HS0
  have HS0 : Hid ((fun W => Var W (w.heap.size) [.int .i64 p.x, .int .i64 p.y] ∧ Var W (w.heap.size + 1) [.bool false, .slice none 0 0] ∧ Var W (w.heap.size + 1 + 1) [.bool false, .slice none 0 0] ∧ Var W (w.heap.size + 1 + 1 + 1) [.bool false, .slice none 0 0] ∧ Var W (g5) [.bool m5, .slice ad5 n5 c5] ∧ NumIs (.agg #[.bool m5, .slice ad5 n5 c5]) (p.x) W ∧ Grew w 4 W) _) := ⟨hS0.1, hS0.2.1, hS0.2.2.1, hS0.2.2.2.1, vn, hN, hS0.2.2.2.2⟩
  clear hS0 vn hN
  go_upto_region 2 with (fail)
  go_cut [6] (fun pv W => ∃ g6 : Nat, ∃ (m6 : Bool) (ad6 : Option Addr) (n6 c6 : Nat), pv = .pointer (some ⟨g6, 0, none⟩) ∧ (w.heap.size + 4 ≤ g6) ∧ Var W (g6) [.bool m6, .slice ad6 n6 c6] ∧ NumIs (.agg #[.bool m6, .slice ad6 n6 c6]) (p.y) W ∧ (fun W => Var W (w.heap.size) [.int .i64 p.x, .int .i64 p.y] ∧ Var W (w.heap.size + 1) [.bool false, .slice none 0 0] ∧ Var W (w.heap.size + 1 + 1) [.bool false, .slice none 0 0] ∧ Var W (w.heap.size + 1 + 1 + 1) [.bool false, .slice none 0 0] ∧ Var W (g5) [.bool m5, .slice ad5 n5 c5] ∧ NumIs (.agg #[.bool m5, .slice ad5 n5 c5]) (p.x) W ∧ Grew w 4 W) W)
  case first =>
    obtain ⟨c0_, d0_⟩ := HS0.out.1.two
    obtain ⟨c1_, d1_⟩ := HS0.out.2.1.two
    obtain ⟨c2_, d2_⟩ := HS0.out.2.2.1.two
    obtain ⟨c3_, d3_⟩ := HS0.out.2.2.2.1.two
    obtain ⟨c4_, d4_⟩ := HS0.out.2.2.2.2.1.two
    go_wp2_with fail
    (with_reducible refine (num_n p.y Ry.out _).mono ?_); rintro e w1 ⟨v, rfl, hN, hb1⟩
    obtain ⟨m, ad, n, c, rfl⟩ := hN.shape
    have HN := Lib.hid hN
    clear hN
    try dsimp only
    go_wp2_with fail
    go_meet
    case rel => exact ⟨_, _, _, _, _, rfl, (HS0.out.2.2.2.2.2.2.below hb1).sz, var2_new _ _ _ _ _ rfl, HN.out.below (bl_one _ _), ⟨HS0.out.1.below (bl_trans hb1 (bl_one _ _)), HS0.out.2.1.below (bl_trans hb1 (bl_one _ _)), HS0.out.2.2.1.below (bl_trans hb1 (bl_one _ _)), HS0.out.2.2.2.1.below (bl_trans hb1 (bl_one _ _)), HS0.out.2.2.2.2.1.below (bl_trans hb1 (bl_one _ _)), HS0.out.2.2.2.2.2.1.below (bl_trans hb1 (bl_one _ _)), HS0.out.2.2.2.2.2.2.below (bl_trans hb1 (bl_one _ _))⟩⟩
  case rest =>
  obtain ⟨g6, m6, ad6, n6, c6, rfl, ge6, vn, hN, hS0⟩ := hcut
  clear HS0
  have HS0 : Hid ((fun W => Var W (w.heap.size) [.int .i64 p.x, .int .i64 p.y] ∧ Var W (w.heap.size + 1) [.bool false, .slice none 0 0] ∧ Var W (w.heap.size + 1 + 1) [.bool false, .slice none 0 0] ∧ Var W (w.heap.size + 1 + 1 + 1) [.bool false, .slice none 0 0] ∧ Var W (g5) [.bool m5, .slice ad5 n5 c5] ∧ Var W (g6) [.bool m6, .slice ad6 n6 c6] ∧ NumIs (.agg #[.bool m5, .slice ad5 n5 c5]) (p.x) W ∧ NumIs (.agg #[.bool m6, .slice ad6 n6 c6]) (p.y) W ∧ Grew w 4 W) _) := ⟨hS0.1, hS0.2.1, hS0.2.2.1, hS0.2.2.2.1, hS0.2.2.2.2.1, vn, hS0.2.2.2.2.2.1, hN, hS0.2.2.2.2.2.2⟩
  clear hS0 vn hN
  have HS3 : Hid ((fun W => Var W (g5) [.bool m5, .slice ad5 n5 c5] ∧ Var W (g6) [.bool m6, .slice ad6 n6 c6] ∧ NumIs (.agg #[.bool m5, .slice ad5 n5 c5]) (p.x) W ∧ NumIs (.agg #[.bool m6, .slice ad6 n6 c6]) (p.y) W ∧ Grew w 4 W) _) := ⟨HS0.out.2.2.2.2.1, HS0.out.2.2.2.2.2.1, HS0.out.2.2.2.2.2.2.1, HS0.out.2.2.2.2.2.2.2.1, HS0.out.2.2.2.2.2.2.2.2⟩
  have HR2 := Lib.hid HS0.out.2.1
  have HR3 := Lib.hid HS0.out.2.2.1
  have HR4 := Lib.hid HS0.out.2.2.2.1
  clear HS0
  go_upto_region 3 with (fail)
  refine wp_region_held_drew (S := fun W => Var W (g5) [.bool m5, .slice ad5 n5 c5] ∧ Var W (g6) [.bool m6, .slice ad6 n6 c6] ∧ NumIs (.agg #[.bool m5, .slice ad5 n5 c5]) (p.x) W ∧ NumIs (.agg #[.bool m6, .slice ad6 n6 c6]) (p.y) W ∧ Grew w 4 W) (by kernel_rfl) ?_ (fun q1 => ?_)
  · exact ⟨HS3.out.1.below (bel_drew _), HS3.out.2.1.below (bel_drew _), HS3.out.2.2.1.below (bel_drew _), HS3.out.2.2.2.1.below (bel_drew _), HS3.out.2.2.2.2.below (bel_drew _)⟩
  replace HR2 := Lib.hid (HR2.out.below (bel_drew _))
  replace HR3 := Lib.hid (HR3.out.below (bel_drew _))
  replace HR4 := Lib.hid (HR4.out.below (bel_drew _))
  revert HR2
  revert HR3
  revert HR4
  revert q1
  generalize World.drew _ = W1
  intro q1 HR4 HR3 HR2
  refine tk (i := 0) (v := ?_) rfl (Or.inl ⟨by rfl, ?_⟩) ?_
  rotate_left
  · intro Wq hSw
    obtain ⟨k0, k1⟩ := (id hSw).1.two
    clear hSw
    go_simp
    all_goals (with_reducible rfl)
  try simp only [Act.put, x2, x4, x5, x6, x7]
  refine tk (i := 1) (v := ?_) rfl (Or.inl ⟨by rfl, ?_⟩) ?_
  rotate_left
  · intro Wq hSw
    obtain ⟨k0, k1⟩ := (id hSw).2.1.two
    clear hSw
    go_simp
    all_goals (with_reducible rfl)
  try simp only [Act.put, x2, x3, x4, x5, x6, x7]
  refine tk (i := 2) (v := ?_) rfl (Or.inl ⟨by rfl, ?_⟩) ?_
  rotate_left
  · intro Wq hSw
    obtain ⟨k0, k1⟩ := (id hSw).1.two
    clear hSw
    go_simp
    all_goals (with_reducible rfl)
  try simp only [Act.put, x2, x3, x4, x5, x6, x7]
  refine tk (i := 3) (v := ?_) rfl (Or.inl ⟨by rfl, ?_⟩) ?_
  rotate_left
  · intro Wq hSw
    obtain ⟨k0, k1⟩ := (id hSw).1.two
    clear hSw
    go_simp
    all_goals (with_reducible rfl)
  try simp only [Act.put, x2, x3, x4, x5, x6, x7]
  refine tk (i := 5) (v := ?_) rfl (Or.inl ⟨by rfl, ?_⟩) ?_
  rotate_left
  · intro Wq hSw
    obtain ⟨k0, k1⟩ := (id hSw).2.1.two
    clear hSw
    go_simp
    all_goals (with_reducible rfl)
  try simp only [Act.put, x2, x3, x4, x5, x6, x7]
  refine tk (i := 6) (v := ?_) rfl (Or.inl ⟨by rfl, ?_⟩) ?_
  rotate_left
  · intro Wq hSw
    obtain ⟨k0, k1⟩ := (id hSw).2.1.two
    clear hSw
    go_simp
    all_goals (with_reducible rfl)
  try simp only [Act.put, x2, x3, x4, x5, x6, x7]
  refine wpAnyH_ready (rs := [4]) (by kernel_rfl) (by simp) ?_
  refine (AllReadyH.cons rfl (fun K hK => ?_) AllReadyH.nil)
  rw [if_pos (by rfl)]
  go_simp
  go_at_call 36
  (with_reducible refine (times_num _ _ p.x p.x _ (id q1).2.2.1 (id q1).2.2.1 Bx.out Bx.out).mono ?_); rintro e w1 ⟨va, rfl, hNa, hb1⟩
  obtain ⟨ma, ada, na, ca, rfl⟩ := hNa.shape
  have HNa := Lib.hid hNa
  clear hNa
  go_wp2_with fail
  refine hK.out _ _ ?_ (fun q2 => ?_)
  · exact ⟨(id q1).1.below hb1, (id q1).2.1.below hb1, (id q1).2.2.1.below hb1, (id q1).2.2.2.1.below hb1, (id q1).2.2.2.2.below hb1⟩
  replace HR2 := Lib.hid (HR2.out.below hb1)
  replace HR3 := Lib.hid (HR3.out.below hb1)
  replace HR4 := Lib.hid (HR4.out.below hb1)
  clear hK K q1 hb1
  have q1 := q2
  clear q2
  try simp only [Act.put, x2, x3, x4, x5, x6, x7]
  refine wpAnyH_ready (rs := [7]) (by kernel_rfl) (by simp) ?_
  refine (AllReadyH.cons rfl (fun K hK => ?_) AllReadyH.nil)
  rw [if_pos (by rfl)]
  go_simp
  go_at_call 36
  (with_reducible refine (times_num _ _ p.y p.y _ (id q1).2.2.2.1 (id q1).2.2.2.1 By.out By.out).mono ?_); rintro e w1 ⟨vb, rfl, hNb, hb1⟩
  obtain ⟨mb, adb, nb, cb, rfl⟩ := hNb.shape
  have HNb := Lib.hid hNb
  clear hNb
  go_wp2_with fail
  refine hK.out _ _ ?_ (fun q2 => ?_)
  · exact ⟨(id q1).1.below hb1, (id q1).2.1.below hb1, (id q1).2.2.1.below hb1, (id q1).2.2.2.1.below hb1, (id q1).2.2.2.2.below hb1⟩
  replace HR2 := Lib.hid (HR2.out.below hb1)
  replace HR3 := Lib.hid (HR3.out.below hb1)
  replace HR4 := Lib.hid (HR4.out.below hb1)
  replace HNa := Lib.hid (HNa.out.below hb1)
  clear hK K q1 hb1
  have q1 := q2
  clear q2
  try simp only [Act.put, x2, x3, x4, x5, x6, x7]
  refine wpAnyH_ready (rs := [8]) (by kernel_rfl) (by simp) ?_
  refine (AllReadyH.cons rfl (fun K hK => ?_) AllReadyH.nil)
  rw [if_pos (by rfl)]
  go_simp
  go_at_call 38
  (with_reducible refine (plus_c _ _ (p.x * p.x) (p.y * p.y) _ HNa.out HNb.out BX.out BY.out).mono ?_); rintro e w1 ⟨vs, rfl, hNs, hb1⟩
  obtain ⟨ms, ads, ns, cs, rfl⟩ := hNs.shape
  have HNs := Lib.hid hNs
  clear hNs
  go_wp2_with fail
  refine hK.out _ _ ?_ (fun q2 => ?_)
  · exact ⟨(id q1).1.below hb1, (id q1).2.1.below hb1, (id q1).2.2.1.below hb1, (id q1).2.2.2.1.below hb1, (id q1).2.2.2.2.below hb1⟩
  replace HR2 := Lib.hid (HR2.out.below hb1)
  replace HR3 := Lib.hid (HR3.out.below hb1)
  replace HR4 := Lib.hid (HR4.out.below hb1)
  replace HNa := Lib.hid (HNa.out.below hb1)
  replace HNb := Lib.hid (HNb.out.below hb1)
  clear hK K q1 hb1
  have q1 := q2
  clear q2
  try simp only [Act.put, x2, x3, x4, x5, x6, x7]
  refine wpAnyH_ready (rs := [9]) (by kernel_rfl) (by simp) ?_
  refine (AllReadyH.cons rfl (fun K hK => ?_) AllReadyH.nil)
  rw [if_pos (by rfl)]
  obtain ⟨k0, k1⟩ := HR2.out.two
  obtain ⟨f0, f1⟩ := HR2.out.free2
  go_simp
  refine hK.out _ _ ?_ (fun q2 => ?_)
  · exact ⟨(((id q1).1.far (by dsimp only; omega) _).far (by dsimp only; omega) _), (((id q1).2.1.far (by dsimp only; omega) _).far (by dsimp only; omega) _), ((id q1).2.2.1.res HR2.out (m5) (.slice ad5 n5 c5)), ((id q1).2.2.2.1.res HR2.out (m5) (.slice ad5 n5 c5)), (((id q1).2.2.2.2.set (by dsimp only; omega) _).set (by dsimp only; omega) _)⟩
  replace HR3 := Lib.hid ((id q2).2.2.2.2.far2 HR3.out (by dsimp only; omega) (by dsimp only; omega))
  replace HR4 := Lib.hid ((id q2).2.2.2.2.far2 HR4.out (by dsimp only; omega) (by dsimp only; omega))
  replace HNa := Lib.hid (HNa.out.res HR2.out (m5) (.slice ad5 n5 c5))
  replace HNb := Lib.hid (HNb.out.res HR2.out (m5) (.slice ad5 n5 c5))
  replace HNs := Lib.hid (HNs.out.res HR2.out (m5) (.slice ad5 n5 c5))
  replace HR2 := Lib.hid (HR2.out.set2 (.bool m5) (.slice ad5 n5 c5))
  clear hK K q1 k0 k1 f0 f1
  have q1 := q2
  clear q2
  try simp only [Act.put, x2, x3, x4, x5, x6, x7]
  refine wpAnyH_ready (rs := [10]) (by kernel_rfl) (by simp) ?_
  refine (AllReadyH.cons rfl (fun K hK => ?_) AllReadyH.nil)
  rw [if_pos (by rfl)]
  obtain ⟨k0, k1⟩ := HR3.out.two
  obtain ⟨f0, f1⟩ := HR3.out.free2
  go_simp
  refine hK.out _ _ ?_ (fun q2 => ?_)
  · exact ⟨(((id q1).1.far (by dsimp only; omega) _).far (by dsimp only; omega) _), (((id q1).2.1.far (by dsimp only; omega) _).far (by dsimp only; omega) _), ((id q1).2.2.1.res HR3.out (m6) (.slice ad6 n6 c6)), ((id q1).2.2.2.1.res HR3.out (m6) (.slice ad6 n6 c6)), (((id q1).2.2.2.2.set (by dsimp only; omega) _).set (by dsimp only; omega) _)⟩
  replace HR4 := Lib.hid ((id q2).2.2.2.2.far2 HR4.out (by dsimp only; omega) (by dsimp only; omega))
  replace HNa := Lib.hid (HNa.out.res HR3.out (m6) (.slice ad6 n6 c6))
  replace HNb := Lib.hid (HNb.out.res HR3.out (m6) (.slice ad6 n6 c6))
  replace HNs := Lib.hid (HNs.out.res HR3.out (m6) (.slice ad6 n6 c6))
  replace HR2 := Lib.hid ((id q2).2.2.2.2.far2 HR2.out (by dsimp only; omega) (by dsimp only; omega))
  replace HR3 := Lib.hid (HR3.out.set2 (.bool m6) (.slice ad6 n6 c6))
  clear hK K q1 k0 k1 f0 f1
  have q1 := q2
  clear q2
  try simp only [Act.put, x2, x3, x4, x5, x6, x7]
  refine wpAnyH_ready (rs := [11]) (by kernel_rfl) (by simp) ?_
  refine (AllReadyH.cons rfl (fun K hK => ?_) AllReadyH.nil)
  rw [if_pos (by rfl)]
  obtain ⟨k0, k1⟩ := HR4.out.two
  obtain ⟨f0, f1⟩ := HR4.out.free2
  go_simp
  refine hK.out _ _ ?_ (fun q2 => ?_)
  · exact ⟨(((id q1).1.far (by dsimp only; omega) _).far (by dsimp only; omega) _), (((id q1).2.1.far (by dsimp only; omega) _).far (by dsimp only; omega) _), ((id q1).2.2.1.res HR4.out (ms) (.slice ads ns cs)), ((id q1).2.2.2.1.res HR4.out (ms) (.slice ads ns cs)), (((id q1).2.2.2.2.set (by dsimp only; omega) _).set (by dsimp only; omega) _)⟩
  replace HNa := Lib.hid (HNa.out.res HR4.out (ms) (.slice ads ns cs))
  replace HNb := Lib.hid (HNb.out.res HR4.out (ms) (.slice ads ns cs))
  replace HNs := Lib.hid (HNs.out.res HR4.out (ms) (.slice ads ns cs))
  replace HR2 := Lib.hid ((id q2).2.2.2.2.far2 HR2.out (by dsimp only; omega) (by dsimp only; omega))
  replace HR3 := Lib.hid ((id q2).2.2.2.2.far2 HR3.out (by dsimp only; omega) (by dsimp only; omega))
  replace HR4 := Lib.hid (HR4.out.set2 (.bool ms) (.slice ads ns cs))
  clear hK K q1 k0 k1 f0 f1
  have q1 := q2
  clear q2
  try simp only [Act.put, x2, x3, x4, x5, x6, x7]
  refine wpAnyH_done (by kernel_rfl) ?_ _
  go_wp2_with fail
  obtain ⟨k0, k1⟩ := HR2.out.two
  obtain ⟨k2, k3⟩ := HR3.out.two
  obtain ⟨k4, k5⟩ := HR4.out.two
  refine bodyPost_ret (v := .tuple #[.agg #[.bool m5, .slice ad5 n5 c5], .agg #[.bool m6, .slice ad6 n6 c6], .agg #[.bool ms, .slice ads ns cs]]) (by simp [results, Try.results84, go_sem, k0, k1, k2, k3, k4, k5]; done) rfl ⟨_, _, _, rfl, (id q1).2.2.1, (id q1).2.2.2.1, HNs.out, (id q1).2.2.2.2.hb⟩
end Go.Proofs.Ytojfggnimmaemaa

/-
  Contract of the document's three.
-/
namespace Go.Proofs.Ytojfggnimmaemaa
open Go.RowKit

def threeZ (a b c : Pt) : Int := a.x * (b.y * sqO c - sqO b * c.y) - a.y * (b.x * sqO c - sqO b * c.x) + sqO a * (b.x * c.y - b.y * c.x)
theorem sqO_ab {p : Pt} (h : fitB p = true) : Ab (sqO p) 36893488147419103232 := by
  have := fit_ab h
  exact ((this.1.mul this.1).add (this.2.mul this.2)).le (by decide)
theorem three_ab {a b c : Pt} (fa : fitB a = true) (fb : fitB b = true) (fc : fitB c = true) : Ab (threeZ a b c) 6277101735386680763835789423207666416102355444464034512896 := by
  have A := fit_ab fa
  have B := fit_ab fb
  have C := fit_ab fc
  have SA := sqO_ab fa
  have SB := sqO_ab fb
  have SC := sqO_ab fc
  exact (((A.1.mul ((B.2.mul SC).sub (SB.mul C.2))).sub (A.2.mul ((B.1.mul SC).sub (SB.mul C.1)))).add (SA.mul ((B.1.mul C.2).sub (B.2.mul C.1)))).le (by decide)

set_option maxHeartbeats 16000000 in
set_option maxRecDepth 100000 in
theorem three_n (a b c : Pt) (fa : fitB a = true) (fb : fitB b = true) (fc : fitB c = true) (w : World) : Calls Try.prog 62 #[.agg #[.int .i64 a.x, .int .i64 a.y], .agg #[.int .i64 b.x, .int .i64 b.y], .agg #[.int .i64 c.x, .int .i64 c.y]] w (NumP (threeZ a b c) w) := by
  have LA := Lib.hid (fun W => lift_n a fa W)
  have LB := Lib.hid (fun W => lift_n b fb W)
  have LC := Lib.hid (fun W => lift_n c fc W)
  have A := fit_ab fa
  have B := fit_ab fb
  have C := fit_ab fc
  have SA := sqO_ab fa
  have SB := sqO_ab fb
  have SC := sqO_ab fc
  unfold threeZ
  clear fa fb fc
  unfold LiftP at LA LB LC
  go_enter Try.func62, Try.ntmps62
  go_upto_region 1 with (fail)
  refine wp_abs (fun W => Var W (w.heap.size) [.int .i64 a.x, .int .i64 a.y] ∧ Var W (w.heap.size + 1) [.int .i64 b.x, .int .i64 b.y] ∧ Var W (w.heap.size + 1 + 1) [.int .i64 c.x, .int .i64 c.y] ∧ Var W (w.heap.size + 1 + 1 + 1) [.bool false, .slice none 0 0] ∧ Grew w 4 W) ?_ ?_
  · exact ⟨(var2_new _ _ _ _ _ rfl).below (bl_alloc (bl_alloc (bl_one _ _) _) _), (var2_new _ _ _ _ _ (by simp)).below (bl_alloc (bl_one _ _) _), (var2_new _ _ _ _ _ (by simp)).below (bl_one _ _), var2_new _ _ _ _ _ (by simp), by repeat (first | (with_reducible exact Below.refl _ _) | (with_reducible refine bl_alloc ?_ _) | (with_reducible refine Below.drew ?_) | (with_reducible refine below_drewN' ?_ _) | ((with_reducible refine bl_set ?_ ?_ _); (rotate_left; (dsimp only; omega)))), by simp⟩
  rintro W0 hS0
  have HS0 := Lib.hid hS0
  clear hS0
  have hW : w.heap.size + 4 ≤ W0.heap.size := HS0.out.2.2.2.2.sz
  generalize hxa : a.x = xa at *
  generalize hya : a.y = ya at *
  generalize hsa : sqO a = sa at *
  generalize hxb : b.x = xb at *
  generalize hyb : b.y = yb at *
  generalize hsb : sqO b = sb at *
  generalize hxc : c.x = xc at *
  generalize hyc : c.y = yc at *
  generalize hsc : sqO c = sc at *
  clear hxa hya hsa hxb hyb hsb hxc hyc hsc hW
  go_upto_region 1 with (fail)
  go_cut [7, 8, 9] (fun pa pb pc W => ∃ g7 g8 g9 : Nat, ∃ (m7 : Bool) (ad7 : Option Addr) (n7 c7 : Nat), ∃ (m8 : Bool) (ad8 : Option Addr) (n8 c8 : Nat), ∃ (m9 : Bool) (ad9 : Option Addr) (n9 c9 : Nat), pa = .pointer (some ⟨g7, 0, none⟩) ∧ pb = .pointer (some ⟨g8, 0, none⟩) ∧ pc = .pointer (some ⟨g9, 0, none⟩) ∧ (w.heap.size + 4 ≤ g7 ∧ w.heap.size + 4 ≤ g8 ∧ w.heap.size + 4 ≤ g9) ∧ (fun W => Var W (w.heap.size) [.int .i64 xa, .int .i64 ya] ∧ Var W (w.heap.size + 1) [.int .i64 xb, .int .i64 yb] ∧ Var W (w.heap.size + 1 + 1) [.int .i64 xc, .int .i64 yc] ∧ Var W (w.heap.size + 1 + 1 + 1) [.bool false, .slice none 0 0] ∧ Var W (g7) [.bool m7, .slice ad7 n7 c7] ∧ Var W (g8) [.bool m8, .slice ad8 n8 c8] ∧ Var W (g9) [.bool m9, .slice ad9 n9 c9] ∧ NumIs (.agg #[.bool m7, .slice ad7 n7 c7]) (xa) W ∧ NumIs (.agg #[.bool m8, .slice ad8 n8 c8]) (ya) W ∧ NumIs (.agg #[.bool m9, .slice ad9 n9 c9]) (sa) W ∧ Grew w 4 W) W)
  case first =>
    obtain ⟨c0_, d0_⟩ := HS0.out.1.two
    obtain ⟨c1_, d1_⟩ := HS0.out.2.1.two
    obtain ⟨c2_, d2_⟩ := HS0.out.2.2.1.two
    obtain ⟨c3_, d3_⟩ := HS0.out.2.2.2.1.two
    go_wp2_with fail
    (with_reducible refine (LA.out _).mono ?_); rintro e w1 ⟨v0, v1, v2, rfl, hA, hB, hC, hb1⟩
    obtain ⟨mm0, aa0, nn0, cc0, rfl⟩ := hA.shape
    have HA_ := Lib.hid hA
    clear hA
    obtain ⟨mm1, aa1, nn1, cc1, rfl⟩ := hB.shape
    have HB_ := Lib.hid hB
    clear hB
    obtain ⟨mm2, aa2, nn2, cc2, rfl⟩ := hC.shape
    have HC_ := Lib.hid hC
    clear hC
    try dsimp only
    go_wp2_with fail
    go_meet
    case rel =>
      have sz := (HS0.out.2.2.2.2.below hb1).sz
      exact ⟨w1.heap.size, w1.heap.size + 1, w1.heap.size + 1 + 1, _, _, _, _, _, _, _, _, _, _, _, _, rfl, by first | rfl | simp, by first | rfl | simp, ⟨by omega, by omega, by omega⟩, ⟨HS0.out.1.below (bl_trans hb1 (bl_alloc (bl_alloc (bl_one _ _) _) _)), HS0.out.2.1.below (bl_trans hb1 (bl_alloc (bl_alloc (bl_one _ _) _) _)), HS0.out.2.2.1.below (bl_trans hb1 (bl_alloc (bl_alloc (bl_one _ _) _) _)), HS0.out.2.2.2.1.below (bl_trans hb1 (bl_alloc (bl_alloc (bl_one _ _) _) _)), (var2_new _ _ _ _ _ rfl).below (bl_alloc (bl_one _ _) _), (var2_new _ _ _ _ _ (by simp)).below (bl_one _ _), var2_new _ _ _ _ _ (by simp), HA_.out.below (bl_alloc (bl_alloc (bl_one _ _) _) _), HB_.out.below (bl_alloc (bl_alloc (bl_one _ _) _) _), HC_.out.below (bl_alloc (bl_alloc (bl_one _ _) _) _), HS0.out.2.2.2.2.below (bl_trans hb1 (bl_alloc (bl_alloc (bl_one _ _) _) _))⟩⟩
  case rest =>
  obtain ⟨g7, g8, g9, m7, ad7, n7, c7, m8, ad8, n8, c8, m9, ad9, n9, c9, rfl, rfl, rfl, ⟨ge7, ge8, ge9⟩, hS0⟩ := hcut
  clear HS0
  have HS0 := Lib.hid hS0
  clear hS0
  go_upto_region 2 with (fail)
  go_cut [10, 11, 12] (fun pa pb pc W => ∃ g10 g11 g12 : Nat, ∃ (m10 : Bool) (ad10 : Option Addr) (n10 c10 : Nat), ∃ (m11 : Bool) (ad11 : Option Addr) (n11 c11 : Nat), ∃ (m12 : Bool) (ad12 : Option Addr) (n12 c12 : Nat), pa = .pointer (some ⟨g10, 0, none⟩) ∧ pb = .pointer (some ⟨g11, 0, none⟩) ∧ pc = .pointer (some ⟨g12, 0, none⟩) ∧ (w.heap.size + 4 ≤ g10 ∧ w.heap.size + 4 ≤ g11 ∧ w.heap.size + 4 ≤ g12) ∧ (fun W => Var W (w.heap.size) [.int .i64 xa, .int .i64 ya] ∧ Var W (w.heap.size + 1) [.int .i64 xb, .int .i64 yb] ∧ Var W (w.heap.size + 1 + 1) [.int .i64 xc, .int .i64 yc] ∧ Var W (w.heap.size + 1 + 1 + 1) [.bool false, .slice none 0 0] ∧ Var W (g7) [.bool m7, .slice ad7 n7 c7] ∧ Var W (g8) [.bool m8, .slice ad8 n8 c8] ∧ Var W (g9) [.bool m9, .slice ad9 n9 c9] ∧ Var W (g10) [.bool m10, .slice ad10 n10 c10] ∧ Var W (g11) [.bool m11, .slice ad11 n11 c11] ∧ Var W (g12) [.bool m12, .slice ad12 n12 c12] ∧ NumIs (.agg #[.bool m7, .slice ad7 n7 c7]) (xa) W ∧ NumIs (.agg #[.bool m8, .slice ad8 n8 c8]) (ya) W ∧ NumIs (.agg #[.bool m9, .slice ad9 n9 c9]) (sa) W ∧ NumIs (.agg #[.bool m10, .slice ad10 n10 c10]) (xb) W ∧ NumIs (.agg #[.bool m11, .slice ad11 n11 c11]) (yb) W ∧ NumIs (.agg #[.bool m12, .slice ad12 n12 c12]) (sb) W ∧ Grew w 4 W) W)
  case first =>
    obtain ⟨c0_, d0_⟩ := HS0.out.1.two
    obtain ⟨c1_, d1_⟩ := HS0.out.2.1.two
    obtain ⟨c2_, d2_⟩ := HS0.out.2.2.1.two
    obtain ⟨c3_, d3_⟩ := HS0.out.2.2.2.1.two
    obtain ⟨c4_, d4_⟩ := HS0.out.2.2.2.2.1.two
    obtain ⟨c5_, d5_⟩ := HS0.out.2.2.2.2.2.1.two
    obtain ⟨c6_, d6_⟩ := HS0.out.2.2.2.2.2.2.1.two
    go_wp2_with fail
    (with_reducible refine (LB.out _).mono ?_); rintro e w1 ⟨v0, v1, v2, rfl, hA, hB, hC, hb1⟩
    obtain ⟨mm0, aa0, nn0, cc0, rfl⟩ := hA.shape
    have HA_ := Lib.hid hA
    clear hA
    obtain ⟨mm1, aa1, nn1, cc1, rfl⟩ := hB.shape
    have HB_ := Lib.hid hB
    clear hB
    obtain ⟨mm2, aa2, nn2, cc2, rfl⟩ := hC.shape
    have HC_ := Lib.hid hC
    clear hC
    try dsimp only
    go_wp2_with fail
    go_meet
    case rel =>
      have sz := (HS0.out.2.2.2.2.2.2.2.2.2.2.below hb1).sz
      exact ⟨w1.heap.size, w1.heap.size + 1, w1.heap.size + 1 + 1, _, _, _, _, _, _, _, _, _, _, _, _, rfl, by first | rfl | simp, by first | rfl | simp, ⟨by omega, by omega, by omega⟩, ⟨HS0.out.1.below (bl_trans hb1 (bl_alloc (bl_alloc (bl_one _ _) _) _)), HS0.out.2.1.below (bl_trans hb1 (bl_alloc (bl_alloc (bl_one _ _) _) _)), HS0.out.2.2.1.below (bl_trans hb1 (bl_alloc (bl_alloc (bl_one _ _) _) _)), HS0.out.2.2.2.1.below (bl_trans hb1 (bl_alloc (bl_alloc (bl_one _ _) _) _)), HS0.out.2.2.2.2.1.below (bl_trans hb1 (bl_alloc (bl_alloc (bl_one _ _) _) _)), HS0.out.2.2.2.2.2.1.below (bl_trans hb1 (bl_alloc (bl_alloc (bl_one _ _) _) _)), HS0.out.2.2.2.2.2.2.1.below (bl_trans hb1 (bl_alloc (bl_alloc (bl_one _ _) _) _)), (var2_new _ _ _ _ _ rfl).below (bl_alloc (bl_one _ _) _), (var2_new _ _ _ _ _ (by simp)).below (bl_one _ _), var2_new _ _ _ _ _ (by simp), HS0.out.2.2.2.2.2.2.2.1.below (bl_trans hb1 (bl_alloc (bl_alloc (bl_one _ _) _) _)), HS0.out.2.2.2.2.2.2.2.2.1.below (bl_trans hb1 (bl_alloc (bl_alloc (bl_one _ _) _) _)), HS0.out.2.2.2.2.2.2.2.2.2.1.below (bl_trans hb1 (bl_alloc (bl_alloc (bl_one _ _) _) _)), HA_.out.below (bl_alloc (bl_alloc (bl_one _ _) _) _), HB_.out.below (bl_alloc (bl_alloc (bl_one _ _) _) _), HC_.out.below (bl_alloc (bl_alloc (bl_one _ _) _) _), HS0.out.2.2.2.2.2.2.2.2.2.2.below (bl_trans hb1 (bl_alloc (bl_alloc (bl_one _ _) _) _))⟩⟩
  case rest =>
  obtain ⟨g10, g11, g12, m10, ad10, n10, c10, m11, ad11, n11, c11, m12, ad12, n12, c12, rfl, rfl, rfl, ⟨ge10, ge11, ge12⟩, hS0⟩ := hcut
  clear HS0
  have HS0 := Lib.hid hS0
  clear hS0
  go_upto_region 3 with (fail)
  go_cut [13, 14, 15] (fun pa pb pc W => ∃ g13 g14 g15 : Nat, ∃ (m13 : Bool) (ad13 : Option Addr) (n13 c13 : Nat), ∃ (m14 : Bool) (ad14 : Option Addr) (n14 c14 : Nat), ∃ (m15 : Bool) (ad15 : Option Addr) (n15 c15 : Nat), pa = .pointer (some ⟨g13, 0, none⟩) ∧ pb = .pointer (some ⟨g14, 0, none⟩) ∧ pc = .pointer (some ⟨g15, 0, none⟩) ∧ (w.heap.size + 4 ≤ g13 ∧ w.heap.size + 4 ≤ g14 ∧ w.heap.size + 4 ≤ g15) ∧ (fun W => Var W (w.heap.size) [.int .i64 xa, .int .i64 ya] ∧ Var W (w.heap.size + 1) [.int .i64 xb, .int .i64 yb] ∧ Var W (w.heap.size + 1 + 1) [.int .i64 xc, .int .i64 yc] ∧ Var W (w.heap.size + 1 + 1 + 1) [.bool false, .slice none 0 0] ∧ Var W (g7) [.bool m7, .slice ad7 n7 c7] ∧ Var W (g8) [.bool m8, .slice ad8 n8 c8] ∧ Var W (g9) [.bool m9, .slice ad9 n9 c9] ∧ Var W (g10) [.bool m10, .slice ad10 n10 c10] ∧ Var W (g11) [.bool m11, .slice ad11 n11 c11] ∧ Var W (g12) [.bool m12, .slice ad12 n12 c12] ∧ Var W (g13) [.bool m13, .slice ad13 n13 c13] ∧ Var W (g14) [.bool m14, .slice ad14 n14 c14] ∧ Var W (g15) [.bool m15, .slice ad15 n15 c15] ∧ NumIs (.agg #[.bool m7, .slice ad7 n7 c7]) (xa) W ∧ NumIs (.agg #[.bool m8, .slice ad8 n8 c8]) (ya) W ∧ NumIs (.agg #[.bool m9, .slice ad9 n9 c9]) (sa) W ∧ NumIs (.agg #[.bool m10, .slice ad10 n10 c10]) (xb) W ∧ NumIs (.agg #[.bool m11, .slice ad11 n11 c11]) (yb) W ∧ NumIs (.agg #[.bool m12, .slice ad12 n12 c12]) (sb) W ∧ NumIs (.agg #[.bool m13, .slice ad13 n13 c13]) (xc) W ∧ NumIs (.agg #[.bool m14, .slice ad14 n14 c14]) (yc) W ∧ NumIs (.agg #[.bool m15, .slice ad15 n15 c15]) (sc) W ∧ Grew w 4 W) W)
  case first =>
    obtain ⟨c0_, d0_⟩ := HS0.out.1.two
    obtain ⟨c1_, d1_⟩ := HS0.out.2.1.two
    obtain ⟨c2_, d2_⟩ := HS0.out.2.2.1.two
    obtain ⟨c3_, d3_⟩ := HS0.out.2.2.2.1.two
    obtain ⟨c4_, d4_⟩ := HS0.out.2.2.2.2.1.two
    obtain ⟨c5_, d5_⟩ := HS0.out.2.2.2.2.2.1.two
    obtain ⟨c6_, d6_⟩ := HS0.out.2.2.2.2.2.2.1.two
    obtain ⟨c7_, d7_⟩ := HS0.out.2.2.2.2.2.2.2.1.two
    obtain ⟨c8_, d8_⟩ := HS0.out.2.2.2.2.2.2.2.2.1.two
    obtain ⟨c9_, d9_⟩ := HS0.out.2.2.2.2.2.2.2.2.2.1.two
    go_wp2_with fail
    (with_reducible refine (LC.out _).mono ?_); rintro e w1 ⟨v0, v1, v2, rfl, hA, hB, hC, hb1⟩
    obtain ⟨mm0, aa0, nn0, cc0, rfl⟩ := hA.shape
    have HA_ := Lib.hid hA
    clear hA
    obtain ⟨mm1, aa1, nn1, cc1, rfl⟩ := hB.shape
    have HB_ := Lib.hid hB
    clear hB
    obtain ⟨mm2, aa2, nn2, cc2, rfl⟩ := hC.shape
    have HC_ := Lib.hid hC
    clear hC
    try dsimp only
    go_wp2_with fail
    go_meet
    case rel =>
      have sz := (HS0.out.2.2.2.2.2.2.2.2.2.2.2.2.2.2.2.2.below hb1).sz
      exact ⟨w1.heap.size, w1.heap.size + 1, w1.heap.size + 1 + 1, _, _, _, _, _, _, _, _, _, _, _, _, rfl, by first | rfl | simp, by first | rfl | simp, ⟨by omega, by omega, by omega⟩, ⟨HS0.out.1.below (bl_trans hb1 (bl_alloc (bl_alloc (bl_one _ _) _) _)), HS0.out.2.1.below (bl_trans hb1 (bl_alloc (bl_alloc (bl_one _ _) _) _)), HS0.out.2.2.1.below (bl_trans hb1 (bl_alloc (bl_alloc (bl_one _ _) _) _)), HS0.out.2.2.2.1.below (bl_trans hb1 (bl_alloc (bl_alloc (bl_one _ _) _) _)), HS0.out.2.2.2.2.1.below (bl_trans hb1 (bl_alloc (bl_alloc (bl_one _ _) _) _)), HS0.out.2.2.2.2.2.1.below (bl_trans hb1 (bl_alloc (bl_alloc (bl_one _ _) _) _)), HS0.out.2.2.2.2.2.2.1.below (bl_trans hb1 (bl_alloc (bl_alloc (bl_one _ _) _) _)), HS0.out.2.2.2.2.2.2.2.1.below (bl_trans hb1 (bl_alloc (bl_alloc (bl_one _ _) _) _)), HS0.out.2.2.2.2.2.2.2.2.1.below (bl_trans hb1 (bl_alloc (bl_alloc (bl_one _ _) _) _)), HS0.out.2.2.2.2.2.2.2.2.2.1.below (bl_trans hb1 (bl_alloc (bl_alloc (bl_one _ _) _) _)), (var2_new _ _ _ _ _ rfl).below (bl_alloc (bl_one _ _) _), (var2_new _ _ _ _ _ (by simp)).below (bl_one _ _), var2_new _ _ _ _ _ (by simp), HS0.out.2.2.2.2.2.2.2.2.2.2.1.below (bl_trans hb1 (bl_alloc (bl_alloc (bl_one _ _) _) _)), HS0.out.2.2.2.2.2.2.2.2.2.2.2.1.below (bl_trans hb1 (bl_alloc (bl_alloc (bl_one _ _) _) _)), HS0.out.2.2.2.2.2.2.2.2.2.2.2.2.1.below (bl_trans hb1 (bl_alloc (bl_alloc (bl_one _ _) _) _)), HS0.out.2.2.2.2.2.2.2.2.2.2.2.2.2.1.below (bl_trans hb1 (bl_alloc (bl_alloc (bl_one _ _) _) _)), HS0.out.2.2.2.2.2.2.2.2.2.2.2.2.2.2.1.below (bl_trans hb1 (bl_alloc (bl_alloc (bl_one _ _) _) _)), HS0.out.2.2.2.2.2.2.2.2.2.2.2.2.2.2.2.1.below (bl_trans hb1 (bl_alloc (bl_alloc (bl_one _ _) _) _)), HA_.out.below (bl_alloc (bl_alloc (bl_one _ _) _) _), HB_.out.below (bl_alloc (bl_alloc (bl_one _ _) _) _), HC_.out.below (bl_alloc (bl_alloc (bl_one _ _) _) _), HS0.out.2.2.2.2.2.2.2.2.2.2.2.2.2.2.2.2.below (bl_trans hb1 (bl_alloc (bl_alloc (bl_one _ _) _) _))⟩⟩
  case rest =>
  obtain ⟨g13, g14, g15, m13, ad13, n13, c13, m14, ad14, n14, c14, m15, ad15, n15, c15, rfl, rfl, rfl, ⟨ge13, ge14, ge15⟩, hS0⟩ := hcut
  clear HS0
  have HS0 := Lib.hid hS0
  clear hS0
  have HS9 : Hid ((fun W => Var W (w.heap.size + 1 + 1 + 1) [.bool false, .slice none 0 0] ∧ Var W (g7) [.bool m7, .slice ad7 n7 c7] ∧ Var W (g8) [.bool m8, .slice ad8 n8 c8] ∧ Var W (g9) [.bool m9, .slice ad9 n9 c9] ∧ Var W (g10) [.bool m10, .slice ad10 n10 c10] ∧ Var W (g11) [.bool m11, .slice ad11 n11 c11] ∧ Var W (g12) [.bool m12, .slice ad12 n12 c12] ∧ Var W (g13) [.bool m13, .slice ad13 n13 c13] ∧ Var W (g14) [.bool m14, .slice ad14 n14 c14] ∧ Var W (g15) [.bool m15, .slice ad15 n15 c15] ∧ NumIs (.agg #[.bool m7, .slice ad7 n7 c7]) (xa) W ∧ NumIs (.agg #[.bool m8, .slice ad8 n8 c8]) (ya) W ∧ NumIs (.agg #[.bool m9, .slice ad9 n9 c9]) (sa) W ∧ NumIs (.agg #[.bool m10, .slice ad10 n10 c10]) (xb) W ∧ NumIs (.agg #[.bool m11, .slice ad11 n11 c11]) (yb) W ∧ NumIs (.agg #[.bool m12, .slice ad12 n12 c12]) (sb) W ∧ NumIs (.agg #[.bool m13, .slice ad13 n13 c13]) (xc) W ∧ NumIs (.agg #[.bool m14, .slice ad14 n14 c14]) (yc) W ∧ NumIs (.agg #[.bool m15, .slice ad15 n15 c15]) (sc) W ∧ Grew w 4 W) _) := ⟨HS0.out.2.2.2.1, HS0.out.2.2.2.2.1, HS0.out.2.2.2.2.2.1, HS0.out.2.2.2.2.2.2.1, HS0.out.2.2.2.2.2.2.2.1, HS0.out.2.2.2.2.2.2.2.2.1, HS0.out.2.2.2.2.2.2.2.2.2.1, HS0.out.2.2.2.2.2.2.2.2.2.2.1, HS0.out.2.2.2.2.2.2.2.2.2.2.2.1, HS0.out.2.2.2.2.2.2.2.2.2.2.2.2.1, HS0.out.2.2.2.2.2.2.2.2.2.2.2.2.2.1, HS0.out.2.2.2.2.2.2.2.2.2.2.2.2.2.2.1, HS0.out.2.2.2.2.2.2.2.2.2.2.2.2.2.2.2.1, HS0.out.2.2.2.2.2.2.2.2.2.2.2.2.2.2.2.2.1, HS0.out.2.2.2.2.2.2.2.2.2.2.2.2.2.2.2.2.2.1, HS0.out.2.2.2.2.2.2.2.2.2.2.2.2.2.2.2.2.2.2.1, HS0.out.2.2.2.2.2.2.2.2.2.2.2.2.2.2.2.2.2.2.2.1, HS0.out.2.2.2.2.2.2.2.2.2.2.2.2.2.2.2.2.2.2.2.2.1, HS0.out.2.2.2.2.2.2.2.2.2.2.2.2.2.2.2.2.2.2.2.2.2.1, HS0.out.2.2.2.2.2.2.2.2.2.2.2.2.2.2.2.2.2.2.2.2.2.2⟩
  clear HS0
  have HS0 := HS9
  clear HS9
  clear LA LB LC
  have Mxa := Lib.hid (A.1.le (show _ ≤ (1208925819614629174706176 : Int) by decide))
  have Gxa := Lib.hid (A.1.big (by decide))
  have Mya := Lib.hid (A.2.le (show _ ≤ (1208925819614629174706176 : Int) by decide))
  have Gya := Lib.hid (A.2.big (by decide))
  have Msa := Lib.hid (SA.le (show _ ≤ (1208925819614629174706176 : Int) by decide))
  have Gsa := Lib.hid (SA.big (by decide))
  have Mxb := Lib.hid (B.1.le (show _ ≤ (1208925819614629174706176 : Int) by decide))
  have Gxb := Lib.hid (B.1.big (by decide))
  have Myb := Lib.hid (B.2.le (show _ ≤ (1208925819614629174706176 : Int) by decide))
  have Gyb := Lib.hid (B.2.big (by decide))
  have Msb := Lib.hid (SB.le (show _ ≤ (1208925819614629174706176 : Int) by decide))
  have Gsb := Lib.hid (SB.big (by decide))
  have Mxc := Lib.hid (C.1.le (show _ ≤ (1208925819614629174706176 : Int) by decide))
  have Gxc := Lib.hid (C.1.big (by decide))
  have Myc := Lib.hid (C.2.le (show _ ≤ (1208925819614629174706176 : Int) by decide))
  have Gyc := Lib.hid (C.2.big (by decide))
  have Msc := Lib.hid (SC.le (show _ ≤ (1208925819614629174706176 : Int) by decide))
  have Gsc := Lib.hid (SC.big (by decide))
  have d1 := (B.2.mul SC).sub (SB.mul C.2)
  have d2 := (B.1.mul SC).sub (SB.mul C.1)
  have d3 := (B.1.mul C.2).sub (B.2.mul C.1)
  have Gd1 := Lib.hid (d1.big (by decide))
  have Gd2 := Lib.hid (d2.big (by decide))
  have Gd3 := Lib.hid (d3.big (by decide))
  have Gt1 := Lib.hid ((A.1.mul d1).big (by decide))
  have Gt2 := Lib.hid ((A.2.mul d2).big (by decide))
  have Gt3 := Lib.hid ((SA.mul d3).big (by decide))
  have Gs2 := Lib.hid (((A.1.mul d1).sub (A.2.mul d2)).big (by decide))
  clear A B C SA SB SC d1 d2 d3
  go_upto_region 4 with (fail)
  go_cut [16] (fun pv W => ∃ g16 : Nat, ∃ (m16 : Bool) (ad16 : Option Addr) (n16 c16 : Nat), pv = .pointer (some ⟨g16, 0, none⟩) ∧ (w.heap.size + 4 ≤ g16 ∧ g7 ≠ g16 ∧ g8 ≠ g16 ∧ g9 ≠ g16 ∧ g10 ≠ g16 ∧ g11 ≠ g16 ∧ g12 ≠ g16 ∧ g13 ≠ g16 ∧ g14 ≠ g16 ∧ g15 ≠ g16) ∧ Var W (g16) [.bool m16, .slice ad16 n16 c16] ∧ NumIs (.agg #[.bool m16, .slice ad16 n16 c16]) (xa * (yb * sc - sb * yc)) W ∧ (fun W => Var W (w.heap.size + 1 + 1 + 1) [.bool false, .slice none 0 0] ∧ Var W (g7) [.bool m7, .slice ad7 n7 c7] ∧ Var W (g8) [.bool m8, .slice ad8 n8 c8] ∧ Var W (g9) [.bool m9, .slice ad9 n9 c9] ∧ Var W (g10) [.bool m10, .slice ad10 n10 c10] ∧ Var W (g11) [.bool m11, .slice ad11 n11 c11] ∧ Var W (g12) [.bool m12, .slice ad12 n12 c12] ∧ Var W (g13) [.bool m13, .slice ad13 n13 c13] ∧ Var W (g14) [.bool m14, .slice ad14 n14 c14] ∧ Var W (g15) [.bool m15, .slice ad15 n15 c15] ∧ NumIs (.agg #[.bool m7, .slice ad7 n7 c7]) (xa) W ∧ NumIs (.agg #[.bool m8, .slice ad8 n8 c8]) (ya) W ∧ NumIs (.agg #[.bool m9, .slice ad9 n9 c9]) (sa) W ∧ NumIs (.agg #[.bool m10, .slice ad10 n10 c10]) (xb) W ∧ NumIs (.agg #[.bool m11, .slice ad11 n11 c11]) (yb) W ∧ NumIs (.agg #[.bool m12, .slice ad12 n12 c12]) (sb) W ∧ NumIs (.agg #[.bool m13, .slice ad13 n13 c13]) (xc) W ∧ NumIs (.agg #[.bool m14, .slice ad14 n14 c14]) (yc) W ∧ NumIs (.agg #[.bool m15, .slice ad15 n15 c15]) (sc) W ∧ Grew w 4 W) W)
  case first =>
    refine wp_region_held_drew (S := fun W => Var W (w.heap.size + 1 + 1 + 1) [.bool false, .slice none 0 0] ∧ Var W (g7) [.bool m7, .slice ad7 n7 c7] ∧ Var W (g8) [.bool m8, .slice ad8 n8 c8] ∧ Var W (g9) [.bool m9, .slice ad9 n9 c9] ∧ Var W (g10) [.bool m10, .slice ad10 n10 c10] ∧ Var W (g11) [.bool m11, .slice ad11 n11 c11] ∧ Var W (g12) [.bool m12, .slice ad12 n12 c12] ∧ Var W (g13) [.bool m13, .slice ad13 n13 c13] ∧ Var W (g14) [.bool m14, .slice ad14 n14 c14] ∧ Var W (g15) [.bool m15, .slice ad15 n15 c15] ∧ NumIs (.agg #[.bool m7, .slice ad7 n7 c7]) (xa) W ∧ NumIs (.agg #[.bool m8, .slice ad8 n8 c8]) (ya) W ∧ NumIs (.agg #[.bool m9, .slice ad9 n9 c9]) (sa) W ∧ NumIs (.agg #[.bool m10, .slice ad10 n10 c10]) (xb) W ∧ NumIs (.agg #[.bool m11, .slice ad11 n11 c11]) (yb) W ∧ NumIs (.agg #[.bool m12, .slice ad12 n12 c12]) (sb) W ∧ NumIs (.agg #[.bool m13, .slice ad13 n13 c13]) (xc) W ∧ NumIs (.agg #[.bool m14, .slice ad14 n14 c14]) (yc) W ∧ NumIs (.agg #[.bool m15, .slice ad15 n15 c15]) (sc) W ∧ Grew w 4 W) (by kernel_rfl) ?_ (fun q1 => ?_)
    · exact ⟨HS0.out.1.below (bel_drew _), HS0.out.2.1.below (bel_drew _), HS0.out.2.2.1.below (bel_drew _), HS0.out.2.2.2.1.below (bel_drew _), HS0.out.2.2.2.2.1.below (bel_drew _), HS0.out.2.2.2.2.2.1.below (bel_drew _), HS0.out.2.2.2.2.2.2.1.below (bel_drew _), HS0.out.2.2.2.2.2.2.2.1.below (bel_drew _), HS0.out.2.2.2.2.2.2.2.2.1.below (bel_drew _), HS0.out.2.2.2.2.2.2.2.2.2.1.below (bel_drew _), HS0.out.2.2.2.2.2.2.2.2.2.2.1.below (bel_drew _), HS0.out.2.2.2.2.2.2.2.2.2.2.2.1.below (bel_drew _), HS0.out.2.2.2.2.2.2.2.2.2.2.2.2.1.below (bel_drew _), HS0.out.2.2.2.2.2.2.2.2.2.2.2.2.2.1.below (bel_drew _), HS0.out.2.2.2.2.2.2.2.2.2.2.2.2.2.2.1.below (bel_drew _), HS0.out.2.2.2.2.2.2.2.2.2.2.2.2.2.2.2.1.below (bel_drew _), HS0.out.2.2.2.2.2.2.2.2.2.2.2.2.2.2.2.2.1.below (bel_drew _), HS0.out.2.2.2.2.2.2.2.2.2.2.2.2.2.2.2.2.2.1.below (bel_drew _), HS0.out.2.2.2.2.2.2.2.2.2.2.2.2.2.2.2.2.2.2.1.below (bel_drew _), HS0.out.2.2.2.2.2.2.2.2.2.2.2.2.2.2.2.2.2.2.2.below (bel_drew _)⟩
    revert q1
    generalize World.drew _ = W1
    intro q1 
    refine tk (i := 0) (v := ?_) rfl (Or.inl ⟨by rfl, ?_⟩) ?_
    rotate_left
    · intro Wq hSw
      obtain ⟨k0, k1⟩ := (id hSw).2.1.two
      clear hSw
      go_simp
      all_goals (with_reducible rfl)
    try simp only [Act.put, x2, x4, x5, x6, x7]
    refine tk (i := 1) (v := ?_) rfl (Or.inl ⟨by rfl, ?_⟩) ?_
    rotate_left
    · intro Wq hSw
      obtain ⟨k0, k1⟩ := (id hSw).2.2.2.2.2.1.two
      clear hSw
      go_simp
      all_goals (with_reducible rfl)
    try simp only [Act.put, x2, x3, x4, x5, x6, x7]
    refine tk (i := 2) (v := ?_) rfl (Or.inl ⟨by rfl, ?_⟩) ?_
    rotate_left
    · intro Wq hSw
      obtain ⟨k0, k1⟩ := (id hSw).2.2.2.2.2.2.1.two
      clear hSw
      go_simp
      all_goals (with_reducible rfl)
    try simp only [Act.put, x2, x3, x4, x5, x6, x7]
    refine tk (i := 3) (v := ?_) rfl (Or.inl ⟨by rfl, ?_⟩) ?_
    rotate_left
    · intro Wq hSw
      obtain ⟨k0, k1⟩ := (id hSw).2.2.2.2.2.2.2.2.1.two
      clear hSw
      go_simp
      all_goals (with_reducible rfl)
    try simp only [Act.put, x2, x3, x4, x5, x6, x7]
    refine tk (i := 4) (v := ?_) rfl (Or.inl ⟨by rfl, ?_⟩) ?_
    rotate_left
    · intro Wq hSw
      obtain ⟨k0, k1⟩ := (id hSw).2.2.2.2.2.2.2.2.2.1.two
      clear hSw
      go_simp
      all_goals (with_reducible rfl)
    try simp only [Act.put, x2, x3, x4, x5, x6, x7]
    refine wpAnyH_ready (rs := [5, 7]) (by kernel_rfl) (by simp) ?_
    refine (AllReadyH.cons rfl (fun K hK => ?_) (AllReadyH.cons rfl (fun K hK => ?_) AllReadyH.nil))
    · rw [if_pos (by rfl)]
      go_simp
      go_at_call 74
      (with_reducible refine (det_n _ _ _ _ yb sb yc sc Myb.out Msb.out Myc.out Msc.out _ (id q1).2.2.2.2.2.2.2.2.2.2.2.2.2.2.1 (id q1).2.2.2.2.2.2.2.2.2.2.2.2.2.2.2.1 (id q1).2.2.2.2.2.2.2.2.2.2.2.2.2.2.2.2.2.1 (id q1).2.2.2.2.2.2.2.2.2.2.2.2.2.2.2.2.2.2.1).mono ?_); rintro e w1 ⟨vd, rfl, hNd, hb1⟩
      obtain ⟨md, add, nd, cd, rfl⟩ := hNd.shape
      have HNd := Lib.hid hNd
      clear hNd
      go_wp2_with fail
      refine hK.out _ _ ?_ (fun q2 => ?_)
      · exact ⟨(id q1).1.below hb1, (id q1).2.1.below hb1, (id q1).2.2.1.below hb1, (id q1).2.2.2.1.below hb1, (id q1).2.2.2.2.1.below hb1, (id q1).2.2.2.2.2.1.below hb1, (id q1).2.2.2.2.2.2.1.below hb1, (id q1).2.2.2.2.2.2.2.1.below hb1, (id q1).2.2.2.2.2.2.2.2.1.below hb1, (id q1).2.2.2.2.2.2.2.2.2.1.below hb1, (id q1).2.2.2.2.2.2.2.2.2.2.1.below hb1, (id q1).2.2.2.2.2.2.2.2.2.2.2.1.below hb1, (id q1).2.2.2.2.2.2.2.2.2.2.2.2.1.below hb1, (id q1).2.2.2.2.2.2.2.2.2.2.2.2.2.1.below hb1, (id q1).2.2.2.2.2.2.2.2.2.2.2.2.2.2.1.below hb1, (id q1).2.2.2.2.2.2.2.2.2.2.2.2.2.2.2.1.below hb1, (id q1).2.2.2.2.2.2.2.2.2.2.2.2.2.2.2.2.1.below hb1, (id q1).2.2.2.2.2.2.2.2.2.2.2.2.2.2.2.2.2.1.below hb1, (id q1).2.2.2.2.2.2.2.2.2.2.2.2.2.2.2.2.2.2.1.below hb1, (id q1).2.2.2.2.2.2.2.2.2.2.2.2.2.2.2.2.2.2.2.below hb1⟩
      clear hK K q1 hb1
      have q1 := q2
      clear q2
      try simp only [Act.put, x2, x3, x4, x5, x6, x7]
      refine wpAnyH_ready (rs := [6, 7]) (by kernel_rfl) (by simp) ?_
      refine (AllReadyH.cons rfl (fun K hK => ?_) (AllReadyH.cons rfl (fun K hK => ?_) AllReadyH.nil))
      · rw [if_pos (by rfl)]
        go_simp
        go_at_call 36
        (with_reducible refine (times_num _ _ xa (yb * sc - sb * yc) _ (id q1).2.2.2.2.2.2.2.2.2.2.1 HNd.out Gxa.out Gd1.out).mono ?_); rintro e w1 ⟨vt, rfl, hNt, hb1⟩
        obtain ⟨mt, adt, nt, ct, rfl⟩ := hNt.shape
        have HNt := Lib.hid hNt
        clear hNt
        go_wp2_with fail
        refine hK.out _ _ ?_ (fun q2 => ?_)
        · exact ⟨(id q1).1.below hb1, (id q1).2.1.below hb1, (id q1).2.2.1.below hb1, (id q1).2.2.2.1.below hb1, (id q1).2.2.2.2.1.below hb1, (id q1).2.2.2.2.2.1.below hb1, (id q1).2.2.2.2.2.2.1.below hb1, (id q1).2.2.2.2.2.2.2.1.below hb1, (id q1).2.2.2.2.2.2.2.2.1.below hb1, (id q1).2.2.2.2.2.2.2.2.2.1.below hb1, (id q1).2.2.2.2.2.2.2.2.2.2.1.below hb1, (id q1).2.2.2.2.2.2.2.2.2.2.2.1.below hb1, (id q1).2.2.2.2.2.2.2.2.2.2.2.2.1.below hb1, (id q1).2.2.2.2.2.2.2.2.2.2.2.2.2.1.below hb1, (id q1).2.2.2.2.2.2.2.2.2.2.2.2.2.2.1.below hb1, (id q1).2.2.2.2.2.2.2.2.2.2.2.2.2.2.2.1.below hb1, (id q1).2.2.2.2.2.2.2.2.2.2.2.2.2.2.2.2.1.below hb1, (id q1).2.2.2.2.2.2.2.2.2.2.2.2.2.2.2.2.2.1.below hb1, (id q1).2.2.2.2.2.2.2.2.2.2.2.2.2.2.2.2.2.2.1.below hb1, (id q1).2.2.2.2.2.2.2.2.2.2.2.2.2.2.2.2.2.2.2.below hb1⟩
        replace HNd := Lib.hid (HNd.out.below hb1)
        clear hK K q1 hb1
        have q1 := q2
        clear q2
        try simp only [Act.put, x2, x3, x4, x5, x6, x7]
        refine wpAnyH_ready (rs := [7]) (by kernel_rfl) (by simp) ?_
        refine (AllReadyH.cons rfl (fun K hK => ?_) AllReadyH.nil)
        rw [if_pos (by rfl)]
        go_simp
        refine hK.out _ _ ?_ (fun q2 => ?_)
        · exact ⟨(id q1).1.below (bl_one _ _), (id q1).2.1.below (bl_one _ _), (id q1).2.2.1.below (bl_one _ _), (id q1).2.2.2.1.below (bl_one _ _), (id q1).2.2.2.2.1.below (bl_one _ _), (id q1).2.2.2.2.2.1.below (bl_one _ _), (id q1).2.2.2.2.2.2.1.below (bl_one _ _), (id q1).2.2.2.2.2.2.2.1.below (bl_one _ _), (id q1).2.2.2.2.2.2.2.2.1.below (bl_one _ _), (id q1).2.2.2.2.2.2.2.2.2.1.below (bl_one _ _), (id q1).2.2.2.2.2.2.2.2.2.2.1.below (bl_one _ _), (id q1).2.2.2.2.2.2.2.2.2.2.2.1.below (bl_one _ _), (id q1).2.2.2.2.2.2.2.2.2.2.2.2.1.below (bl_one _ _), (id q1).2.2.2.2.2.2.2.2.2.2.2.2.2.1.below (bl_one _ _), (id q1).2.2.2.2.2.2.2.2.2.2.2.2.2.2.1.below (bl_one _ _), (id q1).2.2.2.2.2.2.2.2.2.2.2.2.2.2.2.1.below (bl_one _ _), (id q1).2.2.2.2.2.2.2.2.2.2.2.2.2.2.2.2.1.below (bl_one _ _), (id q1).2.2.2.2.2.2.2.2.2.2.2.2.2.2.2.2.2.1.below (bl_one _ _), (id q1).2.2.2.2.2.2.2.2.2.2.2.2.2.2.2.2.2.2.1.below (bl_one _ _), (id q1).2.2.2.2.2.2.2.2.2.2.2.2.2.2.2.2.2.2.2.below (bl_one _ _)⟩
        replace HNd := Lib.hid (HNd.out.below (al_of (id q2).2.2.2.2.2.2.2.2.2.2.2.2.2.2.2.2.2.2.2 (bl_one _ _)))
        replace HNt := Lib.hid (HNt.out.below (al_of (id q2).2.2.2.2.2.2.2.2.2.2.2.2.2.2.2.2.2.2.2 (bl_one _ _)))
        have hgeHX := (id q1).2.2.2.2.2.2.2.2.2.2.2.2.2.2.2.2.2.2.2.sz
        have hltHX_1 := (id q1).2.1.lt
        have hltHX_2 := (id q1).2.2.1.lt
        have hltHX_3 := (id q1).2.2.2.1.lt
        have hltHX_4 := (id q1).2.2.2.2.1.lt
        have hltHX_5 := (id q1).2.2.2.2.2.1.lt
        have hltHX_6 := (id q1).2.2.2.2.2.2.1.lt
        have hltHX_7 := (id q1).2.2.2.2.2.2.2.1.lt
        have hltHX_8 := (id q1).2.2.2.2.2.2.2.2.1.lt
        have hltHX_9 := (id q1).2.2.2.2.2.2.2.2.2.1.lt
        have HX := Lib.hid ((id q1).2.2.2.2.2.2.2.2.2.2.2.2.2.2.2.2.2.2.2.var2 (.bool false) (.slice none 0 0) 42)
        clear hK K q1
        have q1 := q2
        clear q2
        try simp only [Act.put, x2, x3, x4, x5, x6, x7]
        revert HNd
        revert HNt
        revert HX
        revert q1
        generalize World.alloc _ _ = W2
        intro q1 HX HNt HNd
        refine wpAnyH_ready (rs := [8]) (by kernel_rfl) (by simp) ?_
        refine (AllReadyH.cons rfl (fun K hK => ?_) AllReadyH.nil)
        rw [if_pos (by rfl)]
        obtain ⟨k0, k1⟩ := HX.out.two
        obtain ⟨f0, f1⟩ := HX.out.free2
        go_simp
        refine hK.out _ _ ?_ (fun q2 => ?_)
        · exact ⟨(((id q1).1.far (by dsimp only; omega) _).far (by dsimp only; omega) _), (((id q1).2.1.far (by dsimp only; omega) _).far (by dsimp only; omega) _), (((id q1).2.2.1.far (by dsimp only; omega) _).far (by dsimp only; omega) _), (((id q1).2.2.2.1.far (by dsimp only; omega) _).far (by dsimp only; omega) _), (((id q1).2.2.2.2.1.far (by dsimp only; omega) _).far (by dsimp only; omega) _), (((id q1).2.2.2.2.2.1.far (by dsimp only; omega) _).far (by dsimp only; omega) _), (((id q1).2.2.2.2.2.2.1.far (by dsimp only; omega) _).far (by dsimp only; omega) _), (((id q1).2.2.2.2.2.2.2.1.far (by dsimp only; omega) _).far (by dsimp only; omega) _), (((id q1).2.2.2.2.2.2.2.2.1.far (by dsimp only; omega) _).far (by dsimp only; omega) _), (((id q1).2.2.2.2.2.2.2.2.2.1.far (by dsimp only; omega) _).far (by dsimp only; omega) _), ((id q1).2.2.2.2.2.2.2.2.2.2.1.res HX.out (mt) (.slice adt nt ct)), ((id q1).2.2.2.2.2.2.2.2.2.2.2.1.res HX.out (mt) (.slice adt nt ct)), ((id q1).2.2.2.2.2.2.2.2.2.2.2.2.1.res HX.out (mt) (.slice adt nt ct)), ((id q1).2.2.2.2.2.2.2.2.2.2.2.2.2.1.res HX.out (mt) (.slice adt nt ct)), ((id q1).2.2.2.2.2.2.2.2.2.2.2.2.2.2.1.res HX.out (mt) (.slice adt nt ct)), ((id q1).2.2.2.2.2.2.2.2.2.2.2.2.2.2.2.1.res HX.out (mt) (.slice adt nt ct)), ((id q1).2.2.2.2.2.2.2.2.2.2.2.2.2.2.2.2.1.res HX.out (mt) (.slice adt nt ct)), ((id q1).2.2.2.2.2.2.2.2.2.2.2.2.2.2.2.2.2.1.res HX.out (mt) (.slice adt nt ct)), ((id q1).2.2.2.2.2.2.2.2.2.2.2.2.2.2.2.2.2.2.1.res HX.out (mt) (.slice adt nt ct)), (((id q1).2.2.2.2.2.2.2.2.2.2.2.2.2.2.2.2.2.2.2.set (by dsimp only; omega) _).set (by dsimp only; omega) _)⟩
        replace HNd := Lib.hid (HNd.out.res HX.out (mt) (.slice adt nt ct))
        replace HNt := Lib.hid (HNt.out.res HX.out (mt) (.slice adt nt ct))
        replace HX := Lib.hid (HX.out.set2 (.bool mt) (.slice adt nt ct))
        clear hK K q1 k0 k1 f0 f1
        have q1 := q2
        clear q2
        try simp only [Act.put, x2, x3, x4, x5, x6, x7]
        refine wpAnyH_done (by kernel_rfl) ?_ _
        go_wp2_with fail
        go_meet
        case rel => exact ⟨_, _, _, _, _, rfl, ⟨hgeHX, Nat.ne_of_lt hltHX_1, Nat.ne_of_lt hltHX_2, Nat.ne_of_lt hltHX_3, Nat.ne_of_lt hltHX_4, Nat.ne_of_lt hltHX_5, Nat.ne_of_lt hltHX_6, Nat.ne_of_lt hltHX_7, Nat.ne_of_lt hltHX_8, Nat.ne_of_lt hltHX_9⟩, HX.out, HNt.out, id q1⟩
      · rw [if_pos (by rfl)]
        go_simp
        refine hK.out _ _ ?_ (fun q2 => ?_)
        · exact ⟨(id q1).1.below (bl_one _ _), (id q1).2.1.below (bl_one _ _), (id q1).2.2.1.below (bl_one _ _), (id q1).2.2.2.1.below (bl_one _ _), (id q1).2.2.2.2.1.below (bl_one _ _), (id q1).2.2.2.2.2.1.below (bl_one _ _), (id q1).2.2.2.2.2.2.1.below (bl_one _ _), (id q1).2.2.2.2.2.2.2.1.below (bl_one _ _), (id q1).2.2.2.2.2.2.2.2.1.below (bl_one _ _), (id q1).2.2.2.2.2.2.2.2.2.1.below (bl_one _ _), (id q1).2.2.2.2.2.2.2.2.2.2.1.below (bl_one _ _), (id q1).2.2.2.2.2.2.2.2.2.2.2.1.below (bl_one _ _), (id q1).2.2.2.2.2.2.2.2.2.2.2.2.1.below (bl_one _ _), (id q1).2.2.2.2.2.2.2.2.2.2.2.2.2.1.below (bl_one _ _), (id q1).2.2.2.2.2.2.2.2.2.2.2.2.2.2.1.below (bl_one _ _), (id q1).2.2.2.2.2.2.2.2.2.2.2.2.2.2.2.1.below (bl_one _ _), (id q1).2.2.2.2.2.2.2.2.2.2.2.2.2.2.2.2.1.below (bl_one _ _), (id q1).2.2.2.2.2.2.2.2.2.2.2.2.2.2.2.2.2.1.below (bl_one _ _), (id q1).2.2.2.2.2.2.2.2.2.2.2.2.2.2.2.2.2.2.1.below (bl_one _ _), (id q1).2.2.2.2.2.2.2.2.2.2.2.2.2.2.2.2.2.2.2.below (bl_one _ _)⟩
        replace HNd := Lib.hid (HNd.out.below (al_of (id q2).2.2.2.2.2.2.2.2.2.2.2.2.2.2.2.2.2.2.2 (bl_one _ _)))
        have hgeHX := (id q1).2.2.2.2.2.2.2.2.2.2.2.2.2.2.2.2.2.2.2.sz
        have hltHX_1 := (id q1).2.1.lt
        have hltHX_2 := (id q1).2.2.1.lt
        have hltHX_3 := (id q1).2.2.2.1.lt
        have hltHX_4 := (id q1).2.2.2.2.1.lt
        have hltHX_5 := (id q1).2.2.2.2.2.1.lt
        have hltHX_6 := (id q1).2.2.2.2.2.2.1.lt
        have hltHX_7 := (id q1).2.2.2.2.2.2.2.1.lt
        have hltHX_8 := (id q1).2.2.2.2.2.2.2.2.1.lt
        have hltHX_9 := (id q1).2.2.2.2.2.2.2.2.2.1.lt
        have HX := Lib.hid ((id q1).2.2.2.2.2.2.2.2.2.2.2.2.2.2.2.2.2.2.2.var2 (.bool false) (.slice none 0 0) 42)
        clear hK K q1
        have q1 := q2
        clear q2
        try simp only [Act.put, x2, x3, x4, x5, x6, x7]
        revert HNd
        revert HX
        revert q1
        generalize World.alloc _ _ = W2
        intro q1 HX HNd
        refine wpAnyH_ready (rs := [6]) (by kernel_rfl) (by simp) ?_
        refine (AllReadyH.cons rfl (fun K hK => ?_) AllReadyH.nil)
        rw [if_pos (by rfl)]
        go_simp
        go_at_call 36
        (with_reducible refine (times_num _ _ xa (yb * sc - sb * yc) _ (id q1).2.2.2.2.2.2.2.2.2.2.1 HNd.out Gxa.out Gd1.out).mono ?_); rintro e w1 ⟨vt, rfl, hNt, hb1⟩
        obtain ⟨mt, adt, nt, ct, rfl⟩ := hNt.shape
        have HNt := Lib.hid hNt
        clear hNt
        go_wp2_with fail
        refine hK.out _ _ ?_ (fun q2 => ?_)
        · exact ⟨(id q1).1.below hb1, (id q1).2.1.below hb1, (id q1).2.2.1.below hb1, (id q1).2.2.2.1.below hb1, (id q1).2.2.2.2.1.below hb1, (id q1).2.2.2.2.2.1.below hb1, (id q1).2.2.2.2.2.2.1.below hb1, (id q1).2.2.2.2.2.2.2.1.below hb1, (id q1).2.2.2.2.2.2.2.2.1.below hb1, (id q1).2.2.2.2.2.2.2.2.2.1.below hb1, (id q1).2.2.2.2.2.2.2.2.2.2.1.below hb1, (id q1).2.2.2.2.2.2.2.2.2.2.2.1.below hb1, (id q1).2.2.2.2.2.2.2.2.2.2.2.2.1.below hb1, (id q1).2.2.2.2.2.2.2.2.2.2.2.2.2.1.below hb1, (id q1).2.2.2.2.2.2.2.2.2.2.2.2.2.2.1.below hb1, (id q1).2.2.2.2.2.2.2.2.2.2.2.2.2.2.2.1.below hb1, (id q1).2.2.2.2.2.2.2.2.2.2.2.2.2.2.2.2.1.below hb1, (id q1).2.2.2.2.2.2.2.2.2.2.2.2.2.2.2.2.2.1.below hb1, (id q1).2.2.2.2.2.2.2.2.2.2.2.2.2.2.2.2.2.2.1.below hb1, (id q1).2.2.2.2.2.2.2.2.2.2.2.2.2.2.2.2.2.2.2.below hb1⟩
        replace HNd := Lib.hid (HNd.out.below hb1)
        replace HX := Lib.hid (HX.out.below hb1)
        clear hK K q1 hb1
        have q1 := q2
        clear q2
        try simp only [Act.put, x2, x3, x4, x5, x6, x7]
        refine wpAnyH_ready (rs := [8]) (by kernel_rfl) (by simp) ?_
        refine (AllReadyH.cons rfl (fun K hK => ?_) AllReadyH.nil)
        rw [if_pos (by rfl)]
        obtain ⟨k0, k1⟩ := HX.out.two
        obtain ⟨f0, f1⟩ := HX.out.free2
        go_simp
        refine hK.out _ _ ?_ (fun q2 => ?_)
        · exact ⟨(((id q1).1.far (by dsimp only; omega) _).far (by dsimp only; omega) _), (((id q1).2.1.far (by dsimp only; omega) _).far (by dsimp only; omega) _), (((id q1).2.2.1.far (by dsimp only; omega) _).far (by dsimp only; omega) _), (((id q1).2.2.2.1.far (by dsimp only; omega) _).far (by dsimp only; omega) _), (((id q1).2.2.2.2.1.far (by dsimp only; omega) _).far (by dsimp only; omega) _), (((id q1).2.2.2.2.2.1.far (by dsimp only; omega) _).far (by dsimp only; omega) _), (((id q1).2.2.2.2.2.2.1.far (by dsimp only; omega) _).far (by dsimp only; omega) _), (((id q1).2.2.2.2.2.2.2.1.far (by dsimp only; omega) _).far (by dsimp only; omega) _), (((id q1).2.2.2.2.2.2.2.2.1.far (by dsimp only; omega) _).far (by dsimp only; omega) _), (((id q1).2.2.2.2.2.2.2.2.2.1.far (by dsimp only; omega) _).far (by dsimp only; omega) _), ((id q1).2.2.2.2.2.2.2.2.2.2.1.res HX.out (mt) (.slice adt nt ct)), ((id q1).2.2.2.2.2.2.2.2.2.2.2.1.res HX.out (mt) (.slice adt nt ct)), ((id q1).2.2.2.2.2.2.2.2.2.2.2.2.1.res HX.out (mt) (.slice adt nt ct)), ((id q1).2.2.2.2.2.2.2.2.2.2.2.2.2.1.res HX.out (mt) (.slice adt nt ct)), ((id q1).2.2.2.2.2.2.2.2.2.2.2.2.2.2.1.res HX.out (mt) (.slice adt nt ct)), ((id q1).2.2.2.2.2.2.2.2.2.2.2.2.2.2.2.1.res HX.out (mt) (.slice adt nt ct)), ((id q1).2.2.2.2.2.2.2.2.2.2.2.2.2.2.2.2.1.res HX.out (mt) (.slice adt nt ct)), ((id q1).2.2.2.2.2.2.2.2.2.2.2.2.2.2.2.2.2.1.res HX.out (mt) (.slice adt nt ct)), ((id q1).2.2.2.2.2.2.2.2.2.2.2.2.2.2.2.2.2.2.1.res HX.out (mt) (.slice adt nt ct)), (((id q1).2.2.2.2.2.2.2.2.2.2.2.2.2.2.2.2.2.2.2.set (by dsimp only; omega) _).set (by dsimp only; omega) _)⟩
        replace HNd := Lib.hid (HNd.out.res HX.out (mt) (.slice adt nt ct))
        replace HNt := Lib.hid (HNt.out.res HX.out (mt) (.slice adt nt ct))
        replace HX := Lib.hid (HX.out.set2 (.bool mt) (.slice adt nt ct))
        clear hK K q1 k0 k1 f0 f1
        have q1 := q2
        clear q2
        try simp only [Act.put, x2, x3, x4, x5, x6, x7]
        refine wpAnyH_done (by kernel_rfl) ?_ _
        go_wp2_with fail
        go_meet
        case rel => exact ⟨_, _, _, _, _, rfl, ⟨hgeHX, Nat.ne_of_lt hltHX_1, Nat.ne_of_lt hltHX_2, Nat.ne_of_lt hltHX_3, Nat.ne_of_lt hltHX_4, Nat.ne_of_lt hltHX_5, Nat.ne_of_lt hltHX_6, Nat.ne_of_lt hltHX_7, Nat.ne_of_lt hltHX_8, Nat.ne_of_lt hltHX_9⟩, HX.out, HNt.out, id q1⟩
    · rw [if_pos (by rfl)]
      go_simp
      refine hK.out _ _ ?_ (fun q2 => ?_)
      · exact ⟨(id q1).1.below (bl_one _ _), (id q1).2.1.below (bl_one _ _), (id q1).2.2.1.below (bl_one _ _), (id q1).2.2.2.1.below (bl_one _ _), (id q1).2.2.2.2.1.below (bl_one _ _), (id q1).2.2.2.2.2.1.below (bl_one _ _), (id q1).2.2.2.2.2.2.1.below (bl_one _ _), (id q1).2.2.2.2.2.2.2.1.below (bl_one _ _), (id q1).2.2.2.2.2.2.2.2.1.below (bl_one _ _), (id q1).2.2.2.2.2.2.2.2.2.1.below (bl_one _ _), (id q1).2.2.2.2.2.2.2.2.2.2.1.below (bl_one _ _), (id q1).2.2.2.2.2.2.2.2.2.2.2.1.below (bl_one _ _), (id q1).2.2.2.2.2.2.2.2.2.2.2.2.1.below (bl_one _ _), (id q1).2.2.2.2.2.2.2.2.2.2.2.2.2.1.below (bl_one _ _), (id q1).2.2.2.2.2.2.2.2.2.2.2.2.2.2.1.below (bl_one _ _), (id q1).2.2.2.2.2.2.2.2.2.2.2.2.2.2.2.1.below (bl_one _ _), (id q1).2.2.2.2.2.2.2.2.2.2.2.2.2.2.2.2.1.below (bl_one _ _), (id q1).2.2.2.2.2.2.2.2.2.2.2.2.2.2.2.2.2.1.below (bl_one _ _), (id q1).2.2.2.2.2.2.2.2.2.2.2.2.2.2.2.2.2.2.1.below (bl_one _ _), (id q1).2.2.2.2.2.2.2.2.2.2.2.2.2.2.2.2.2.2.2.below (bl_one _ _)⟩
      have hgeHX := (id q1).2.2.2.2.2.2.2.2.2.2.2.2.2.2.2.2.2.2.2.sz
      have hltHX_1 := (id q1).2.1.lt
      have hltHX_2 := (id q1).2.2.1.lt
      have hltHX_3 := (id q1).2.2.2.1.lt
      have hltHX_4 := (id q1).2.2.2.2.1.lt
      have hltHX_5 := (id q1).2.2.2.2.2.1.lt
      have hltHX_6 := (id q1).2.2.2.2.2.2.1.lt
      have hltHX_7 := (id q1).2.2.2.2.2.2.2.1.lt
      have hltHX_8 := (id q1).2.2.2.2.2.2.2.2.1.lt
      have hltHX_9 := (id q1).2.2.2.2.2.2.2.2.2.1.lt
      have HX := Lib.hid ((id q1).2.2.2.2.2.2.2.2.2.2.2.2.2.2.2.2.2.2.2.var2 (.bool false) (.slice none 0 0) 42)
      clear hK K q1
      have q1 := q2
      clear q2
      try simp only [Act.put, x2, x3, x4, x5, x6, x7]
      revert HX
      revert q1
      generalize World.alloc _ _ = W2
      intro q1 HX
      refine wpAnyH_ready (rs := [5]) (by kernel_rfl) (by simp) ?_
      refine (AllReadyH.cons rfl (fun K hK => ?_) AllReadyH.nil)
      rw [if_pos (by rfl)]
      go_simp
      go_at_call 74
      (with_reducible refine (det_n _ _ _ _ yb sb yc sc Myb.out Msb.out Myc.out Msc.out _ (id q1).2.2.2.2.2.2.2.2.2.2.2.2.2.2.1 (id q1).2.2.2.2.2.2.2.2.2.2.2.2.2.2.2.1 (id q1).2.2.2.2.2.2.2.2.2.2.2.2.2.2.2.2.2.1 (id q1).2.2.2.2.2.2.2.2.2.2.2.2.2.2.2.2.2.2.1).mono ?_); rintro e w1 ⟨vd, rfl, hNd, hb1⟩
      obtain ⟨md, add, nd, cd, rfl⟩ := hNd.shape
      have HNd := Lib.hid hNd
      clear hNd
      go_wp2_with fail
      refine hK.out _ _ ?_ (fun q2 => ?_)
      · exact ⟨(id q1).1.below hb1, (id q1).2.1.below hb1, (id q1).2.2.1.below hb1, (id q1).2.2.2.1.below hb1, (id q1).2.2.2.2.1.below hb1, (id q1).2.2.2.2.2.1.below hb1, (id q1).2.2.2.2.2.2.1.below hb1, (id q1).2.2.2.2.2.2.2.1.below hb1, (id q1).2.2.2.2.2.2.2.2.1.below hb1, (id q1).2.2.2.2.2.2.2.2.2.1.below hb1, (id q1).2.2.2.2.2.2.2.2.2.2.1.below hb1, (id q1).2.2.2.2.2.2.2.2.2.2.2.1.below hb1, (id q1).2.2.2.2.2.2.2.2.2.2.2.2.1.below hb1, (id q1).2.2.2.2.2.2.2.2.2.2.2.2.2.1.below hb1, (id q1).2.2.2.2.2.2.2.2.2.2.2.2.2.2.1.below hb1, (id q1).2.2.2.2.2.2.2.2.2.2.2.2.2.2.2.1.below hb1, (id q1).2.2.2.2.2.2.2.2.2.2.2.2.2.2.2.2.1.below hb1, (id q1).2.2.2.2.2.2.2.2.2.2.2.2.2.2.2.2.2.1.below hb1, (id q1).2.2.2.2.2.2.2.2.2.2.2.2.2.2.2.2.2.2.1.below hb1, (id q1).2.2.2.2.2.2.2.2.2.2.2.2.2.2.2.2.2.2.2.below hb1⟩
      replace HX := Lib.hid (HX.out.below hb1)
      clear hK K q1 hb1
      have q1 := q2
      clear q2
      try simp only [Act.put, x2, x3, x4, x5, x6, x7]
      refine wpAnyH_ready (rs := [6]) (by kernel_rfl) (by simp) ?_
      refine (AllReadyH.cons rfl (fun K hK => ?_) AllReadyH.nil)
      rw [if_pos (by rfl)]
      go_simp
      go_at_call 36
      (with_reducible refine (times_num _ _ xa (yb * sc - sb * yc) _ (id q1).2.2.2.2.2.2.2.2.2.2.1 HNd.out Gxa.out Gd1.out).mono ?_); rintro e w1 ⟨vt, rfl, hNt, hb1⟩
      obtain ⟨mt, adt, nt, ct, rfl⟩ := hNt.shape
      have HNt := Lib.hid hNt
      clear hNt
      go_wp2_with fail
      refine hK.out _ _ ?_ (fun q2 => ?_)
      · exact ⟨(id q1).1.below hb1, (id q1).2.1.below hb1, (id q1).2.2.1.below hb1, (id q1).2.2.2.1.below hb1, (id q1).2.2.2.2.1.below hb1, (id q1).2.2.2.2.2.1.below hb1, (id q1).2.2.2.2.2.2.1.below hb1, (id q1).2.2.2.2.2.2.2.1.below hb1, (id q1).2.2.2.2.2.2.2.2.1.below hb1, (id q1).2.2.2.2.2.2.2.2.2.1.below hb1, (id q1).2.2.2.2.2.2.2.2.2.2.1.below hb1, (id q1).2.2.2.2.2.2.2.2.2.2.2.1.below hb1, (id q1).2.2.2.2.2.2.2.2.2.2.2.2.1.below hb1, (id q1).2.2.2.2.2.2.2.2.2.2.2.2.2.1.below hb1, (id q1).2.2.2.2.2.2.2.2.2.2.2.2.2.2.1.below hb1, (id q1).2.2.2.2.2.2.2.2.2.2.2.2.2.2.2.1.below hb1, (id q1).2.2.2.2.2.2.2.2.2.2.2.2.2.2.2.2.1.below hb1, (id q1).2.2.2.2.2.2.2.2.2.2.2.2.2.2.2.2.2.1.below hb1, (id q1).2.2.2.2.2.2.2.2.2.2.2.2.2.2.2.2.2.2.1.below hb1, (id q1).2.2.2.2.2.2.2.2.2.2.2.2.2.2.2.2.2.2.2.below hb1⟩
      replace HX := Lib.hid (HX.out.below hb1)
      replace HNd := Lib.hid (HNd.out.below hb1)
      clear hK K q1 hb1
      have q1 := q2
      clear q2
      try simp only [Act.put, x2, x3, x4, x5, x6, x7]
      refine wpAnyH_ready (rs := [8]) (by kernel_rfl) (by simp) ?_
      refine (AllReadyH.cons rfl (fun K hK => ?_) AllReadyH.nil)
      rw [if_pos (by rfl)]
      obtain ⟨k0, k1⟩ := HX.out.two
      obtain ⟨f0, f1⟩ := HX.out.free2
      go_simp
      refine hK.out _ _ ?_ (fun q2 => ?_)
      · exact ⟨(((id q1).1.far (by dsimp only; omega) _).far (by dsimp only; omega) _), (((id q1).2.1.far (by dsimp only; omega) _).far (by dsimp only; omega) _), (((id q1).2.2.1.far (by dsimp only; omega) _).far (by dsimp only; omega) _), (((id q1).2.2.2.1.far (by dsimp only; omega) _).far (by dsimp only; omega) _), (((id q1).2.2.2.2.1.far (by dsimp only; omega) _).far (by dsimp only; omega) _), (((id q1).2.2.2.2.2.1.far (by dsimp only; omega) _).far (by dsimp only; omega) _), (((id q1).2.2.2.2.2.2.1.far (by dsimp only; omega) _).far (by dsimp only; omega) _), (((id q1).2.2.2.2.2.2.2.1.far (by dsimp only; omega) _).far (by dsimp only; omega) _), (((id q1).2.2.2.2.2.2.2.2.1.far (by dsimp only; omega) _).far (by dsimp only; omega) _), (((id q1).2.2.2.2.2.2.2.2.2.1.far (by dsimp only; omega) _).far (by dsimp only; omega) _), ((id q1).2.2.2.2.2.2.2.2.2.2.1.res HX.out (mt) (.slice adt nt ct)), ((id q1).2.2.2.2.2.2.2.2.2.2.2.1.res HX.out (mt) (.slice adt nt ct)), ((id q1).2.2.2.2.2.2.2.2.2.2.2.2.1.res HX.out (mt) (.slice adt nt ct)), ((id q1).2.2.2.2.2.2.2.2.2.2.2.2.2.1.res HX.out (mt) (.slice adt nt ct)), ((id q1).2.2.2.2.2.2.2.2.2.2.2.2.2.2.1.res HX.out (mt) (.slice adt nt ct)), ((id q1).2.2.2.2.2.2.2.2.2.2.2.2.2.2.2.1.res HX.out (mt) (.slice adt nt ct)), ((id q1).2.2.2.2.2.2.2.2.2.2.2.2.2.2.2.2.1.res HX.out (mt) (.slice adt nt ct)), ((id q1).2.2.2.2.2.2.2.2.2.2.2.2.2.2.2.2.2.1.res HX.out (mt) (.slice adt nt ct)), ((id q1).2.2.2.2.2.2.2.2.2.2.2.2.2.2.2.2.2.2.1.res HX.out (mt) (.slice adt nt ct)), (((id q1).2.2.2.2.2.2.2.2.2.2.2.2.2.2.2.2.2.2.2.set (by dsimp only; omega) _).set (by dsimp only; omega) _)⟩
      replace HNd := Lib.hid (HNd.out.res HX.out (mt) (.slice adt nt ct))
      replace HNt := Lib.hid (HNt.out.res HX.out (mt) (.slice adt nt ct))
      replace HX := Lib.hid (HX.out.set2 (.bool mt) (.slice adt nt ct))
      clear hK K q1 k0 k1 f0 f1
      have q1 := q2
      clear q2
      try simp only [Act.put, x2, x3, x4, x5, x6, x7]
      refine wpAnyH_done (by kernel_rfl) ?_ _
      go_wp2_with fail
      go_meet
      case rel => exact ⟨_, _, _, _, _, rfl, ⟨hgeHX, Nat.ne_of_lt hltHX_1, Nat.ne_of_lt hltHX_2, Nat.ne_of_lt hltHX_3, Nat.ne_of_lt hltHX_4, Nat.ne_of_lt hltHX_5, Nat.ne_of_lt hltHX_6, Nat.ne_of_lt hltHX_7, Nat.ne_of_lt hltHX_8, Nat.ne_of_lt hltHX_9⟩, HX.out, HNt.out, id q1⟩
  case rest =>
  obtain ⟨g16, m16, ad16, n16, c16, rfl, ⟨ge16, ne_1_16, ne_2_16, ne_3_16, ne_4_16, ne_5_16, ne_6_16, ne_7_16, ne_8_16, ne_9_16⟩, vn, hN, hS0⟩ := hcut
  clear HS0
  have HS0 : Hid ((fun W => Var W (w.heap.size + 1 + 1 + 1) [.bool false, .slice none 0 0] ∧ Var W (g7) [.bool m7, .slice ad7 n7 c7] ∧ Var W (g8) [.bool m8, .slice ad8 n8 c8] ∧ Var W (g9) [.bool m9, .slice ad9 n9 c9] ∧ Var W (g10) [.bool m10, .slice ad10 n10 c10] ∧ Var W (g11) [.bool m11, .slice ad11 n11 c11] ∧ Var W (g12) [.bool m12, .slice ad12 n12 c12] ∧ Var W (g13) [.bool m13, .slice ad13 n13 c13] ∧ Var W (g14) [.bool m14, .slice ad14 n14 c14] ∧ Var W (g15) [.bool m15, .slice ad15 n15 c15] ∧ Var W (g16) [.bool m16, .slice ad16 n16 c16] ∧ NumIs (.agg #[.bool m7, .slice ad7 n7 c7]) (xa) W ∧ NumIs (.agg #[.bool m8, .slice ad8 n8 c8]) (ya) W ∧ NumIs (.agg #[.bool m9, .slice ad9 n9 c9]) (sa) W ∧ NumIs (.agg #[.bool m10, .slice ad10 n10 c10]) (xb) W ∧ NumIs (.agg #[.bool m11, .slice ad11 n11 c11]) (yb) W ∧ NumIs (.agg #[.bool m12, .slice ad12 n12 c12]) (sb) W ∧ NumIs (.agg #[.bool m13, .slice ad13 n13 c13]) (xc) W ∧ NumIs (.agg #[.bool m14, .slice ad14 n14 c14]) (yc) W ∧ NumIs (.agg #[.bool m15, .slice ad15 n15 c15]) (sc) W ∧ NumIs (.agg #[.bool m16, .slice ad16 n16 c16]) (xa * (yb * sc - sb * yc)) W ∧ Grew w 4 W) _) := ⟨hS0.1, hS0.2.1, hS0.2.2.1, hS0.2.2.2.1, hS0.2.2.2.2.1, hS0.2.2.2.2.2.1, hS0.2.2.2.2.2.2.1, hS0.2.2.2.2.2.2.2.1, hS0.2.2.2.2.2.2.2.2.1, hS0.2.2.2.2.2.2.2.2.2.1, vn, hS0.2.2.2.2.2.2.2.2.2.2.1, hS0.2.2.2.2.2.2.2.2.2.2.2.1, hS0.2.2.2.2.2.2.2.2.2.2.2.2.1, hS0.2.2.2.2.2.2.2.2.2.2.2.2.2.1, hS0.2.2.2.2.2.2.2.2.2.2.2.2.2.2.1, hS0.2.2.2.2.2.2.2.2.2.2.2.2.2.2.2.1, hS0.2.2.2.2.2.2.2.2.2.2.2.2.2.2.2.2.1, hS0.2.2.2.2.2.2.2.2.2.2.2.2.2.2.2.2.2.1, hS0.2.2.2.2.2.2.2.2.2.2.2.2.2.2.2.2.2.2.1, hN, hS0.2.2.2.2.2.2.2.2.2.2.2.2.2.2.2.2.2.2.2⟩
  clear hS0 vn hN
  go_upto_region 5 with (fail)
  go_cut [16] (fun pv W => pv = .pointer (some ⟨g16, 0, none⟩) ∧ ∃ (m16 : Bool) (ad16 : Option Addr) (n16 c16 : Nat), (fun W => Var W (w.heap.size + 1 + 1 + 1) [.bool false, .slice none 0 0] ∧ Var W (g7) [.bool m7, .slice ad7 n7 c7] ∧ Var W (g8) [.bool m8, .slice ad8 n8 c8] ∧ Var W (g9) [.bool m9, .slice ad9 n9 c9] ∧ Var W (g10) [.bool m10, .slice ad10 n10 c10] ∧ Var W (g11) [.bool m11, .slice ad11 n11 c11] ∧ Var W (g12) [.bool m12, .slice ad12 n12 c12] ∧ Var W (g13) [.bool m13, .slice ad13 n13 c13] ∧ Var W (g14) [.bool m14, .slice ad14 n14 c14] ∧ Var W (g15) [.bool m15, .slice ad15 n15 c15] ∧ Var W (g16) [.bool m16, .slice ad16 n16 c16] ∧ NumIs (.agg #[.bool m7, .slice ad7 n7 c7]) (xa) W ∧ NumIs (.agg #[.bool m8, .slice ad8 n8 c8]) (ya) W ∧ NumIs (.agg #[.bool m9, .slice ad9 n9 c9]) (sa) W ∧ NumIs (.agg #[.bool m10, .slice ad10 n10 c10]) (xb) W ∧ NumIs (.agg #[.bool m11, .slice ad11 n11 c11]) (yb) W ∧ NumIs (.agg #[.bool m12, .slice ad12 n12 c12]) (sb) W ∧ NumIs (.agg #[.bool m13, .slice ad13 n13 c13]) (xc) W ∧ NumIs (.agg #[.bool m14, .slice ad14 n14 c14]) (yc) W ∧ NumIs (.agg #[.bool m15, .slice ad15 n15 c15]) (sc) W ∧ NumIs (.agg #[.bool m16, .slice ad16 n16 c16]) (xa * (yb * sc - sb * yc) - ya * (xb * sc - sb * xc)) W ∧ Grew w 4 W) W)
  case first =>
    have HS5 : Hid ((fun W => Var W (w.heap.size + 1 + 1 + 1) [.bool false, .slice none 0 0] ∧ Var W (g7) [.bool m7, .slice ad7 n7 c7] ∧ Var W (g8) [.bool m8, .slice ad8 n8 c8] ∧ Var W (g9) [.bool m9, .slice ad9 n9 c9] ∧ Var W (g10) [.bool m10, .slice ad10 n10 c10] ∧ Var W (g11) [.bool m11, .slice ad11 n11 c11] ∧ Var W (g12) [.bool m12, .slice ad12 n12 c12] ∧ Var W (g13) [.bool m13, .slice ad13 n13 c13] ∧ Var W (g14) [.bool m14, .slice ad14 n14 c14] ∧ Var W (g15) [.bool m15, .slice ad15 n15 c15] ∧ NumIs (.agg #[.bool m7, .slice ad7 n7 c7]) (xa) W ∧ NumIs (.agg #[.bool m8, .slice ad8 n8 c8]) (ya) W ∧ NumIs (.agg #[.bool m9, .slice ad9 n9 c9]) (sa) W ∧ NumIs (.agg #[.bool m10, .slice ad10 n10 c10]) (xb) W ∧ NumIs (.agg #[.bool m11, .slice ad11 n11 c11]) (yb) W ∧ NumIs (.agg #[.bool m12, .slice ad12 n12 c12]) (sb) W ∧ NumIs (.agg #[.bool m13, .slice ad13 n13 c13]) (xc) W ∧ NumIs (.agg #[.bool m14, .slice ad14 n14 c14]) (yc) W ∧ NumIs (.agg #[.bool m15, .slice ad15 n15 c15]) (sc) W ∧ Grew w 4 W) _) := ⟨HS0.out.1, HS0.out.2.1, HS0.out.2.2.1, HS0.out.2.2.2.1, HS0.out.2.2.2.2.1, HS0.out.2.2.2.2.2.1, HS0.out.2.2.2.2.2.2.1, HS0.out.2.2.2.2.2.2.2.1, HS0.out.2.2.2.2.2.2.2.2.1, HS0.out.2.2.2.2.2.2.2.2.2.1, HS0.out.2.2.2.2.2.2.2.2.2.2.2.1, HS0.out.2.2.2.2.2.2.2.2.2.2.2.2.1, HS0.out.2.2.2.2.2.2.2.2.2.2.2.2.2.1, HS0.out.2.2.2.2.2.2.2.2.2.2.2.2.2.2.1, HS0.out.2.2.2.2.2.2.2.2.2.2.2.2.2.2.2.1, HS0.out.2.2.2.2.2.2.2.2.2.2.2.2.2.2.2.2.1, HS0.out.2.2.2.2.2.2.2.2.2.2.2.2.2.2.2.2.2.1, HS0.out.2.2.2.2.2.2.2.2.2.2.2.2.2.2.2.2.2.2.1, HS0.out.2.2.2.2.2.2.2.2.2.2.2.2.2.2.2.2.2.2.2.1, HS0.out.2.2.2.2.2.2.2.2.2.2.2.2.2.2.2.2.2.2.2.2.2⟩
    have HU := Lib.hid HS0.out.2.2.2.2.2.2.2.2.2.2.1
    have HNU := Lib.hid HS0.out.2.2.2.2.2.2.2.2.2.2.2.2.2.2.2.2.2.2.2.2.1
    clear HS0
    refine wp_region_held_drew (S := fun W => Var W (w.heap.size + 1 + 1 + 1) [.bool false, .slice none 0 0] ∧ Var W (g7) [.bool m7, .slice ad7 n7 c7] ∧ Var W (g8) [.bool m8, .slice ad8 n8 c8] ∧ Var W (g9) [.bool m9, .slice ad9 n9 c9] ∧ Var W (g10) [.bool m10, .slice ad10 n10 c10] ∧ Var W (g11) [.bool m11, .slice ad11 n11 c11] ∧ Var W (g12) [.bool m12, .slice ad12 n12 c12] ∧ Var W (g13) [.bool m13, .slice ad13 n13 c13] ∧ Var W (g14) [.bool m14, .slice ad14 n14 c14] ∧ Var W (g15) [.bool m15, .slice ad15 n15 c15] ∧ NumIs (.agg #[.bool m7, .slice ad7 n7 c7]) (xa) W ∧ NumIs (.agg #[.bool m8, .slice ad8 n8 c8]) (ya) W ∧ NumIs (.agg #[.bool m9, .slice ad9 n9 c9]) (sa) W ∧ NumIs (.agg #[.bool m10, .slice ad10 n10 c10]) (xb) W ∧ NumIs (.agg #[.bool m11, .slice ad11 n11 c11]) (yb) W ∧ NumIs (.agg #[.bool m12, .slice ad12 n12 c12]) (sb) W ∧ NumIs (.agg #[.bool m13, .slice ad13 n13 c13]) (xc) W ∧ NumIs (.agg #[.bool m14, .slice ad14 n14 c14]) (yc) W ∧ NumIs (.agg #[.bool m15, .slice ad15 n15 c15]) (sc) W ∧ Grew w 4 W) (by kernel_rfl) ?_ (fun q1 => ?_)
    · exact ⟨HS5.out.1.below (bel_drew _), HS5.out.2.1.below (bel_drew _), HS5.out.2.2.1.below (bel_drew _), HS5.out.2.2.2.1.below (bel_drew _), HS5.out.2.2.2.2.1.below (bel_drew _), HS5.out.2.2.2.2.2.1.below (bel_drew _), HS5.out.2.2.2.2.2.2.1.below (bel_drew _), HS5.out.2.2.2.2.2.2.2.1.below (bel_drew _), HS5.out.2.2.2.2.2.2.2.2.1.below (bel_drew _), HS5.out.2.2.2.2.2.2.2.2.2.1.below (bel_drew _), HS5.out.2.2.2.2.2.2.2.2.2.2.1.below (bel_drew _), HS5.out.2.2.2.2.2.2.2.2.2.2.2.1.below (bel_drew _), HS5.out.2.2.2.2.2.2.2.2.2.2.2.2.1.below (bel_drew _), HS5.out.2.2.2.2.2.2.2.2.2.2.2.2.2.1.below (bel_drew _), HS5.out.2.2.2.2.2.2.2.2.2.2.2.2.2.2.1.below (bel_drew _), HS5.out.2.2.2.2.2.2.2.2.2.2.2.2.2.2.2.1.below (bel_drew _), HS5.out.2.2.2.2.2.2.2.2.2.2.2.2.2.2.2.2.1.below (bel_drew _), HS5.out.2.2.2.2.2.2.2.2.2.2.2.2.2.2.2.2.2.1.below (bel_drew _), HS5.out.2.2.2.2.2.2.2.2.2.2.2.2.2.2.2.2.2.2.1.below (bel_drew _), HS5.out.2.2.2.2.2.2.2.2.2.2.2.2.2.2.2.2.2.2.2.below (bel_drew _)⟩
    replace HU := Lib.hid (HU.out.below (bel_drew _))
    replace HNU := Lib.hid (HNU.out.below (bel_drew _))
    revert HU
    revert HNU
    revert q1
    generalize World.drew _ = W1
    intro q1 HNU HU
    refine tk (i := 1) (v := ?_) rfl (Or.inl ⟨by rfl, ?_⟩) ?_
    rotate_left
    · intro Wq hSw
      obtain ⟨k0, k1⟩ := (id hSw).2.2.1.two
      clear hSw
      go_simp
      all_goals (with_reducible rfl)
    try simp only [Act.put, x2, x3, x4, x5, x6, x7]
    refine tk (i := 2) (v := ?_) rfl (Or.inl ⟨by rfl, ?_⟩) ?_
    rotate_left
    · intro Wq hSw
      obtain ⟨k0, k1⟩ := (id hSw).2.2.2.2.1.two
      clear hSw
      go_simp
      all_goals (with_reducible rfl)
    try simp only [Act.put, x2, x3, x4, x5, x6, x7]
    refine tk (i := 3) (v := ?_) rfl (Or.inl ⟨by rfl, ?_⟩) ?_
    rotate_left
    · intro Wq hSw
      obtain ⟨k0, k1⟩ := (id hSw).2.2.2.2.2.2.1.two
      clear hSw
      go_simp
      all_goals (with_reducible rfl)
    try simp only [Act.put, x2, x3, x4, x5, x6, x7]
    refine tk (i := 4) (v := ?_) rfl (Or.inl ⟨by rfl, ?_⟩) ?_
    rotate_left
    · intro Wq hSw
      obtain ⟨k0, k1⟩ := (id hSw).2.2.2.2.2.2.2.1.two
      clear hSw
      go_simp
      all_goals (with_reducible rfl)
    try simp only [Act.put, x2, x3, x4, x5, x6, x7]
    refine tk (i := 5) (v := ?_) rfl (Or.inl ⟨by rfl, ?_⟩) ?_
    rotate_left
    · intro Wq hSw
      obtain ⟨k0, k1⟩ := (id hSw).2.2.2.2.2.2.2.2.2.1.two
      clear hSw
      go_simp
      all_goals (with_reducible rfl)
    try simp only [Act.put, x2, x3, x4, x5, x6, x7]
    refine wpAnyH_ready (rs := [0, 6]) (by kernel_rfl) (by simp) ?_
    refine (AllReadyH.cons rfl (fun K hK => ?_) (AllReadyH.cons rfl (fun K hK => ?_) AllReadyH.nil))
    · rw [if_pos (by rfl)]
      obtain ⟨k0, k1⟩ := HU.out.two
      go_simp
      refine hK.out _ _ ?_ (fun q2 => ?_)
      · exact q1
      clear hK K q1 k0 k1
      have q1 := q2
      clear q2
      try simp only [Act.put, x2, x3, x4, x5, x6, x7]
      refine wpAnyH_ready (rs := [6]) (by kernel_rfl) (by simp) ?_
      refine (AllReadyH.cons rfl (fun K hK => ?_) AllReadyH.nil)
      rw [if_pos (by rfl)]
      go_simp
      go_at_call 74
      (with_reducible refine (det_n _ _ _ _ xb sb xc sc Mxb.out Msb.out Mxc.out Msc.out _ (id q1).2.2.2.2.2.2.2.2.2.2.2.2.2.1 (id q1).2.2.2.2.2.2.2.2.2.2.2.2.2.2.2.1 (id q1).2.2.2.2.2.2.2.2.2.2.2.2.2.2.2.2.1 (id q1).2.2.2.2.2.2.2.2.2.2.2.2.2.2.2.2.2.2.1).mono ?_); rintro e w1 ⟨vd, rfl, hNd, hb1⟩
      obtain ⟨md, add, nd, cd, rfl⟩ := hNd.shape
      have HNd := Lib.hid hNd
      clear hNd
      go_wp2_with fail
      refine hK.out _ _ ?_ (fun q2 => ?_)
      · exact ⟨(id q1).1.below hb1, (id q1).2.1.below hb1, (id q1).2.2.1.below hb1, (id q1).2.2.2.1.below hb1, (id q1).2.2.2.2.1.below hb1, (id q1).2.2.2.2.2.1.below hb1, (id q1).2.2.2.2.2.2.1.below hb1, (id q1).2.2.2.2.2.2.2.1.below hb1, (id q1).2.2.2.2.2.2.2.2.1.below hb1, (id q1).2.2.2.2.2.2.2.2.2.1.below hb1, (id q1).2.2.2.2.2.2.2.2.2.2.1.below hb1, (id q1).2.2.2.2.2.2.2.2.2.2.2.1.below hb1, (id q1).2.2.2.2.2.2.2.2.2.2.2.2.1.below hb1, (id q1).2.2.2.2.2.2.2.2.2.2.2.2.2.1.below hb1, (id q1).2.2.2.2.2.2.2.2.2.2.2.2.2.2.1.below hb1, (id q1).2.2.2.2.2.2.2.2.2.2.2.2.2.2.2.1.below hb1, (id q1).2.2.2.2.2.2.2.2.2.2.2.2.2.2.2.2.1.below hb1, (id q1).2.2.2.2.2.2.2.2.2.2.2.2.2.2.2.2.2.1.below hb1, (id q1).2.2.2.2.2.2.2.2.2.2.2.2.2.2.2.2.2.2.1.below hb1, (id q1).2.2.2.2.2.2.2.2.2.2.2.2.2.2.2.2.2.2.2.below hb1⟩
      replace HU := Lib.hid (HU.out.below hb1)
      replace HNU := Lib.hid (HNU.out.below hb1)
      clear hK K q1 hb1
      have q1 := q2
      clear q2
      try simp only [Act.put, x2, x3, x4, x5, x6, x7]
      refine wpAnyH_ready (rs := [7]) (by kernel_rfl) (by simp) ?_
      refine (AllReadyH.cons rfl (fun K hK => ?_) AllReadyH.nil)
      rw [if_pos (by rfl)]
      go_simp
      go_at_call 36
      (with_reducible refine (times_num _ _ ya (xb * sc - sb * xc) _ (id q1).2.2.2.2.2.2.2.2.2.2.2.1 HNd.out Gya.out Gd2.out).mono ?_); rintro e w1 ⟨vt, rfl, hNt, hb1⟩
      obtain ⟨mt, adt, nt, ct, rfl⟩ := hNt.shape
      have HNt := Lib.hid hNt
      clear hNt
      go_wp2_with fail
      refine hK.out _ _ ?_ (fun q2 => ?_)
      · exact ⟨(id q1).1.below hb1, (id q1).2.1.below hb1, (id q1).2.2.1.below hb1, (id q1).2.2.2.1.below hb1, (id q1).2.2.2.2.1.below hb1, (id q1).2.2.2.2.2.1.below hb1, (id q1).2.2.2.2.2.2.1.below hb1, (id q1).2.2.2.2.2.2.2.1.below hb1, (id q1).2.2.2.2.2.2.2.2.1.below hb1, (id q1).2.2.2.2.2.2.2.2.2.1.below hb1, (id q1).2.2.2.2.2.2.2.2.2.2.1.below hb1, (id q1).2.2.2.2.2.2.2.2.2.2.2.1.below hb1, (id q1).2.2.2.2.2.2.2.2.2.2.2.2.1.below hb1, (id q1).2.2.2.2.2.2.2.2.2.2.2.2.2.1.below hb1, (id q1).2.2.2.2.2.2.2.2.2.2.2.2.2.2.1.below hb1, (id q1).2.2.2.2.2.2.2.2.2.2.2.2.2.2.2.1.below hb1, (id q1).2.2.2.2.2.2.2.2.2.2.2.2.2.2.2.2.1.below hb1, (id q1).2.2.2.2.2.2.2.2.2.2.2.2.2.2.2.2.2.1.below hb1, (id q1).2.2.2.2.2.2.2.2.2.2.2.2.2.2.2.2.2.2.1.below hb1, (id q1).2.2.2.2.2.2.2.2.2.2.2.2.2.2.2.2.2.2.2.below hb1⟩
      replace HU := Lib.hid (HU.out.below hb1)
      replace HNU := Lib.hid (HNU.out.below hb1)
      replace HNd := Lib.hid (HNd.out.below hb1)
      clear hK K q1 hb1
      have q1 := q2
      clear q2
      try simp only [Act.put, x2, x3, x4, x5, x6, x7]
      refine wpAnyH_ready (rs := [8]) (by kernel_rfl) (by simp) ?_
      refine (AllReadyH.cons rfl (fun K hK => ?_) AllReadyH.nil)
      rw [if_pos (by rfl)]
      go_simp
      go_at_call 61
      (with_reducible refine (minus_n _ _ (xa * (yb * sc - sb * yc)) (ya * (xb * sc - sb * xc)) Gt1.out Gt2.out _ HNU.out HNt.out).mono ?_); rintro e w1 ⟨vs, rfl, hNs, hb1⟩
      obtain ⟨ms, ads, ns, cs, rfl⟩ := hNs.shape
      have HNs := Lib.hid hNs
      clear hNs
      go_wp2_with fail
      refine hK.out _ _ ?_ (fun q2 => ?_)
      · exact ⟨(id q1).1.below hb1, (id q1).2.1.below hb1, (id q1).2.2.1.below hb1, (id q1).2.2.2.1.below hb1, (id q1).2.2.2.2.1.below hb1, (id q1).2.2.2.2.2.1.below hb1, (id q1).2.2.2.2.2.2.1.below hb1, (id q1).2.2.2.2.2.2.2.1.below hb1, (id q1).2.2.2.2.2.2.2.2.1.below hb1, (id q1).2.2.2.2.2.2.2.2.2.1.below hb1, (id q1).2.2.2.2.2.2.2.2.2.2.1.below hb1, (id q1).2.2.2.2.2.2.2.2.2.2.2.1.below hb1, (id q1).2.2.2.2.2.2.2.2.2.2.2.2.1.below hb1, (id q1).2.2.2.2.2.2.2.2.2.2.2.2.2.1.below hb1, (id q1).2.2.2.2.2.2.2.2.2.2.2.2.2.2.1.below hb1, (id q1).2.2.2.2.2.2.2.2.2.2.2.2.2.2.2.1.below hb1, (id q1).2.2.2.2.2.2.2.2.2.2.2.2.2.2.2.2.1.below hb1, (id q1).2.2.2.2.2.2.2.2.2.2.2.2.2.2.2.2.2.1.below hb1, (id q1).2.2.2.2.2.2.2.2.2.2.2.2.2.2.2.2.2.2.1.below hb1, (id q1).2.2.2.2.2.2.2.2.2.2.2.2.2.2.2.2.2.2.2.below hb1⟩
      replace HU := Lib.hid (HU.out.below hb1)
      replace HNU := Lib.hid (HNU.out.below hb1)
      replace HNd := Lib.hid (HNd.out.below hb1)
      replace HNt := Lib.hid (HNt.out.below hb1)
      clear hK K q1 hb1
      have q1 := q2
      clear q2
      try simp only [Act.put, x2, x3, x4, x5, x6, x7]
      refine wpAnyH_ready (rs := [9]) (by kernel_rfl) (by simp) ?_
      refine (AllReadyH.cons rfl (fun K hK => ?_) AllReadyH.nil)
      rw [if_pos (by rfl)]
      obtain ⟨k0, k1⟩ := HU.out.two
      obtain ⟨f0, f1⟩ := HU.out.free2
      go_simp
      refine hK.out _ _ ?_ (fun q2 => ?_)
      · exact ⟨(((id q1).1.far (by dsimp only; omega) _).far (by dsimp only; omega) _), (((id q1).2.1.far (by dsimp only; omega) _).far (by dsimp only; omega) _), (((id q1).2.2.1.far (by dsimp only; omega) _).far (by dsimp only; omega) _), (((id q1).2.2.2.1.far (by dsimp only; omega) _).far (by dsimp only; omega) _), (((id q1).2.2.2.2.1.far (by dsimp only; omega) _).far (by dsimp only; omega) _), (((id q1).2.2.2.2.2.1.far (by dsimp only; omega) _).far (by dsimp only; omega) _), (((id q1).2.2.2.2.2.2.1.far (by dsimp only; omega) _).far (by dsimp only; omega) _), (((id q1).2.2.2.2.2.2.2.1.far (by dsimp only; omega) _).far (by dsimp only; omega) _), (((id q1).2.2.2.2.2.2.2.2.1.far (by dsimp only; omega) _).far (by dsimp only; omega) _), (((id q1).2.2.2.2.2.2.2.2.2.1.far (by dsimp only; omega) _).far (by dsimp only; omega) _), ((id q1).2.2.2.2.2.2.2.2.2.2.1.res HU.out (ms) (.slice ads ns cs)), ((id q1).2.2.2.2.2.2.2.2.2.2.2.1.res HU.out (ms) (.slice ads ns cs)), ((id q1).2.2.2.2.2.2.2.2.2.2.2.2.1.res HU.out (ms) (.slice ads ns cs)), ((id q1).2.2.2.2.2.2.2.2.2.2.2.2.2.1.res HU.out (ms) (.slice ads ns cs)), ((id q1).2.2.2.2.2.2.2.2.2.2.2.2.2.2.1.res HU.out (ms) (.slice ads ns cs)), ((id q1).2.2.2.2.2.2.2.2.2.2.2.2.2.2.2.1.res HU.out (ms) (.slice ads ns cs)), ((id q1).2.2.2.2.2.2.2.2.2.2.2.2.2.2.2.2.1.res HU.out (ms) (.slice ads ns cs)), ((id q1).2.2.2.2.2.2.2.2.2.2.2.2.2.2.2.2.2.1.res HU.out (ms) (.slice ads ns cs)), ((id q1).2.2.2.2.2.2.2.2.2.2.2.2.2.2.2.2.2.2.1.res HU.out (ms) (.slice ads ns cs)), (((id q1).2.2.2.2.2.2.2.2.2.2.2.2.2.2.2.2.2.2.2.set (by dsimp only; omega) _).set (by dsimp only; omega) _)⟩
      replace HNU := Lib.hid (HNU.out.res HU.out (ms) (.slice ads ns cs))
      replace HNd := Lib.hid (HNd.out.res HU.out (ms) (.slice ads ns cs))
      replace HNt := Lib.hid (HNt.out.res HU.out (ms) (.slice ads ns cs))
      replace HNs := Lib.hid (HNs.out.res HU.out (ms) (.slice ads ns cs))
      replace HU := Lib.hid (HU.out.set2 (.bool ms) (.slice ads ns cs))
      clear hK K q1 k0 k1 f0 f1
      have q1 := q2
      clear q2
      try simp only [Act.put, x2, x3, x4, x5, x6, x7]
      refine wpAnyH_done (by kernel_rfl) ?_ _
      go_wp2_with fail
      go_meet
      case rel => exact ⟨rfl, _, _, _, _, (id q1).1, (id q1).2.1, (id q1).2.2.1, (id q1).2.2.2.1, (id q1).2.2.2.2.1, (id q1).2.2.2.2.2.1, (id q1).2.2.2.2.2.2.1, (id q1).2.2.2.2.2.2.2.1, (id q1).2.2.2.2.2.2.2.2.1, (id q1).2.2.2.2.2.2.2.2.2.1, HU.out, (id q1).2.2.2.2.2.2.2.2.2.2.1, (id q1).2.2.2.2.2.2.2.2.2.2.2.1, (id q1).2.2.2.2.2.2.2.2.2.2.2.2.1, (id q1).2.2.2.2.2.2.2.2.2.2.2.2.2.1, (id q1).2.2.2.2.2.2.2.2.2.2.2.2.2.2.1, (id q1).2.2.2.2.2.2.2.2.2.2.2.2.2.2.2.1, (id q1).2.2.2.2.2.2.2.2.2.2.2.2.2.2.2.2.1, (id q1).2.2.2.2.2.2.2.2.2.2.2.2.2.2.2.2.2.1, (id q1).2.2.2.2.2.2.2.2.2.2.2.2.2.2.2.2.2.2.1, HNs.out, (id q1).2.2.2.2.2.2.2.2.2.2.2.2.2.2.2.2.2.2.2⟩
    · rw [if_pos (by rfl)]
      go_simp
      go_at_call 74
      (with_reducible refine (det_n _ _ _ _ xb sb xc sc Mxb.out Msb.out Mxc.out Msc.out _ (id q1).2.2.2.2.2.2.2.2.2.2.2.2.2.1 (id q1).2.2.2.2.2.2.2.2.2.2.2.2.2.2.2.1 (id q1).2.2.2.2.2.2.2.2.2.2.2.2.2.2.2.2.1 (id q1).2.2.2.2.2.2.2.2.2.2.2.2.2.2.2.2.2.2.1).mono ?_); rintro e w1 ⟨vd, rfl, hNd, hb1⟩
      obtain ⟨md, add, nd, cd, rfl⟩ := hNd.shape
      have HNd := Lib.hid hNd
      clear hNd
      go_wp2_with fail
      refine hK.out _ _ ?_ (fun q2 => ?_)
      · exact ⟨(id q1).1.below hb1, (id q1).2.1.below hb1, (id q1).2.2.1.below hb1, (id q1).2.2.2.1.below hb1, (id q1).2.2.2.2.1.below hb1, (id q1).2.2.2.2.2.1.below hb1, (id q1).2.2.2.2.2.2.1.below hb1, (id q1).2.2.2.2.2.2.2.1.below hb1, (id q1).2.2.2.2.2.2.2.2.1.below hb1, (id q1).2.2.2.2.2.2.2.2.2.1.below hb1, (id q1).2.2.2.2.2.2.2.2.2.2.1.below hb1, (id q1).2.2.2.2.2.2.2.2.2.2.2.1.below hb1, (id q1).2.2.2.2.2.2.2.2.2.2.2.2.1.below hb1, (id q1).2.2.2.2.2.2.2.2.2.2.2.2.2.1.below hb1, (id q1).2.2.2.2.2.2.2.2.2.2.2.2.2.2.1.below hb1, (id q1).2.2.2.2.2.2.2.2.2.2.2.2.2.2.2.1.below hb1, (id q1).2.2.2.2.2.2.2.2.2.2.2.2.2.2.2.2.1.below hb1, (id q1).2.2.2.2.2.2.2.2.2.2.2.2.2.2.2.2.2.1.below hb1, (id q1).2.2.2.2.2.2.2.2.2.2.2.2.2.2.2.2.2.2.1.below hb1, (id q1).2.2.2.2.2.2.2.2.2.2.2.2.2.2.2.2.2.2.2.below hb1⟩
      replace HU := Lib.hid (HU.out.below hb1)
      replace HNU := Lib.hid (HNU.out.below hb1)
      clear hK K q1 hb1
      have q1 := q2
      clear q2
      try simp only [Act.put, x2, x3, x4, x5, x6, x7]
      refine wpAnyH_ready (rs := [0, 7]) (by kernel_rfl) (by simp) ?_
      refine (AllReadyH.cons rfl (fun K hK => ?_) (AllReadyH.cons rfl (fun K hK => ?_) AllReadyH.nil))
      · rw [if_pos (by rfl)]
        obtain ⟨k0, k1⟩ := HU.out.two
        go_simp
        refine hK.out _ _ ?_ (fun q2 => ?_)
        · exact q1
        clear hK K q1 k0 k1
        have q1 := q2
        clear q2
        try simp only [Act.put, x2, x3, x4, x5, x6, x7]
        refine wpAnyH_ready (rs := [7]) (by kernel_rfl) (by simp) ?_
        refine (AllReadyH.cons rfl (fun K hK => ?_) AllReadyH.nil)
        rw [if_pos (by rfl)]
        go_simp
        go_at_call 36
        (with_reducible refine (times_num _ _ ya (xb * sc - sb * xc) _ (id q1).2.2.2.2.2.2.2.2.2.2.2.1 HNd.out Gya.out Gd2.out).mono ?_); rintro e w1 ⟨vt, rfl, hNt, hb1⟩
        obtain ⟨mt, adt, nt, ct, rfl⟩ := hNt.shape
        have HNt := Lib.hid hNt
        clear hNt
        go_wp2_with fail
        refine hK.out _ _ ?_ (fun q2 => ?_)
        · exact ⟨(id q1).1.below hb1, (id q1).2.1.below hb1, (id q1).2.2.1.below hb1, (id q1).2.2.2.1.below hb1, (id q1).2.2.2.2.1.below hb1, (id q1).2.2.2.2.2.1.below hb1, (id q1).2.2.2.2.2.2.1.below hb1, (id q1).2.2.2.2.2.2.2.1.below hb1, (id q1).2.2.2.2.2.2.2.2.1.below hb1, (id q1).2.2.2.2.2.2.2.2.2.1.below hb1, (id q1).2.2.2.2.2.2.2.2.2.2.1.below hb1, (id q1).2.2.2.2.2.2.2.2.2.2.2.1.below hb1, (id q1).2.2.2.2.2.2.2.2.2.2.2.2.1.below hb1, (id q1).2.2.2.2.2.2.2.2.2.2.2.2.2.1.below hb1, (id q1).2.2.2.2.2.2.2.2.2.2.2.2.2.2.1.below hb1, (id q1).2.2.2.2.2.2.2.2.2.2.2.2.2.2.2.1.below hb1, (id q1).2.2.2.2.2.2.2.2.2.2.2.2.2.2.2.2.1.below hb1, (id q1).2.2.2.2.2.2.2.2.2.2.2.2.2.2.2.2.2.1.below hb1, (id q1).2.2.2.2.2.2.2.2.2.2.2.2.2.2.2.2.2.2.1.below hb1, (id q1).2.2.2.2.2.2.2.2.2.2.2.2.2.2.2.2.2.2.2.below hb1⟩
        replace HU := Lib.hid (HU.out.below hb1)
        replace HNU := Lib.hid (HNU.out.below hb1)
        replace HNd := Lib.hid (HNd.out.below hb1)
        clear hK K q1 hb1
        have q1 := q2
        clear q2
        try simp only [Act.put, x2, x3, x4, x5, x6, x7]
        refine wpAnyH_ready (rs := [8]) (by kernel_rfl) (by simp) ?_
        refine (AllReadyH.cons rfl (fun K hK => ?_) AllReadyH.nil)
        rw [if_pos (by rfl)]
        go_simp
        go_at_call 61
        (with_reducible refine (minus_n _ _ (xa * (yb * sc - sb * yc)) (ya * (xb * sc - sb * xc)) Gt1.out Gt2.out _ HNU.out HNt.out).mono ?_); rintro e w1 ⟨vs, rfl, hNs, hb1⟩
        obtain ⟨ms, ads, ns, cs, rfl⟩ := hNs.shape
        have HNs := Lib.hid hNs
        clear hNs
        go_wp2_with fail
        refine hK.out _ _ ?_ (fun q2 => ?_)
        · exact ⟨(id q1).1.below hb1, (id q1).2.1.below hb1, (id q1).2.2.1.below hb1, (id q1).2.2.2.1.below hb1, (id q1).2.2.2.2.1.below hb1, (id q1).2.2.2.2.2.1.below hb1, (id q1).2.2.2.2.2.2.1.below hb1, (id q1).2.2.2.2.2.2.2.1.below hb1, (id q1).2.2.2.2.2.2.2.2.1.below hb1, (id q1).2.2.2.2.2.2.2.2.2.1.below hb1, (id q1).2.2.2.2.2.2.2.2.2.2.1.below hb1, (id q1).2.2.2.2.2.2.2.2.2.2.2.1.below hb1, (id q1).2.2.2.2.2.2.2.2.2.2.2.2.1.below hb1, (id q1).2.2.2.2.2.2.2.2.2.2.2.2.2.1.below hb1, (id q1).2.2.2.2.2.2.2.2.2.2.2.2.2.2.1.below hb1, (id q1).2.2.2.2.2.2.2.2.2.2.2.2.2.2.2.1.below hb1, (id q1).2.2.2.2.2.2.2.2.2.2.2.2.2.2.2.2.1.below hb1, (id q1).2.2.2.2.2.2.2.2.2.2.2.2.2.2.2.2.2.1.below hb1, (id q1).2.2.2.2.2.2.2.2.2.2.2.2.2.2.2.2.2.2.1.below hb1, (id q1).2.2.2.2.2.2.2.2.2.2.2.2.2.2.2.2.2.2.2.below hb1⟩
        replace HU := Lib.hid (HU.out.below hb1)
        replace HNU := Lib.hid (HNU.out.below hb1)
        replace HNd := Lib.hid (HNd.out.below hb1)
        replace HNt := Lib.hid (HNt.out.below hb1)
        clear hK K q1 hb1
        have q1 := q2
        clear q2
        try simp only [Act.put, x2, x3, x4, x5, x6, x7]
        refine wpAnyH_ready (rs := [9]) (by kernel_rfl) (by simp) ?_
        refine (AllReadyH.cons rfl (fun K hK => ?_) AllReadyH.nil)
        rw [if_pos (by rfl)]
        obtain ⟨k0, k1⟩ := HU.out.two
        obtain ⟨f0, f1⟩ := HU.out.free2
        go_simp
        refine hK.out _ _ ?_ (fun q2 => ?_)
        · exact ⟨(((id q1).1.far (by dsimp only; omega) _).far (by dsimp only; omega) _), (((id q1).2.1.far (by dsimp only; omega) _).far (by dsimp only; omega) _), (((id q1).2.2.1.far (by dsimp only; omega) _).far (by dsimp only; omega) _), (((id q1).2.2.2.1.far (by dsimp only; omega) _).far (by dsimp only; omega) _), (((id q1).2.2.2.2.1.far (by dsimp only; omega) _).far (by dsimp only; omega) _), (((id q1).2.2.2.2.2.1.far (by dsimp only; omega) _).far (by dsimp only; omega) _), (((id q1).2.2.2.2.2.2.1.far (by dsimp only; omega) _).far (by dsimp only; omega) _), (((id q1).2.2.2.2.2.2.2.1.far (by dsimp only; omega) _).far (by dsimp only; omega) _), (((id q1).2.2.2.2.2.2.2.2.1.far (by dsimp only; omega) _).far (by dsimp only; omega) _), (((id q1).2.2.2.2.2.2.2.2.2.1.far (by dsimp only; omega) _).far (by dsimp only; omega) _), ((id q1).2.2.2.2.2.2.2.2.2.2.1.res HU.out (ms) (.slice ads ns cs)), ((id q1).2.2.2.2.2.2.2.2.2.2.2.1.res HU.out (ms) (.slice ads ns cs)), ((id q1).2.2.2.2.2.2.2.2.2.2.2.2.1.res HU.out (ms) (.slice ads ns cs)), ((id q1).2.2.2.2.2.2.2.2.2.2.2.2.2.1.res HU.out (ms) (.slice ads ns cs)), ((id q1).2.2.2.2.2.2.2.2.2.2.2.2.2.2.1.res HU.out (ms) (.slice ads ns cs)), ((id q1).2.2.2.2.2.2.2.2.2.2.2.2.2.2.2.1.res HU.out (ms) (.slice ads ns cs)), ((id q1).2.2.2.2.2.2.2.2.2.2.2.2.2.2.2.2.1.res HU.out (ms) (.slice ads ns cs)), ((id q1).2.2.2.2.2.2.2.2.2.2.2.2.2.2.2.2.2.1.res HU.out (ms) (.slice ads ns cs)), ((id q1).2.2.2.2.2.2.2.2.2.2.2.2.2.2.2.2.2.2.1.res HU.out (ms) (.slice ads ns cs)), (((id q1).2.2.2.2.2.2.2.2.2.2.2.2.2.2.2.2.2.2.2.set (by dsimp only; omega) _).set (by dsimp only; omega) _)⟩
        replace HNU := Lib.hid (HNU.out.res HU.out (ms) (.slice ads ns cs))
        replace HNd := Lib.hid (HNd.out.res HU.out (ms) (.slice ads ns cs))
        replace HNt := Lib.hid (HNt.out.res HU.out (ms) (.slice ads ns cs))
        replace HNs := Lib.hid (HNs.out.res HU.out (ms) (.slice ads ns cs))
        replace HU := Lib.hid (HU.out.set2 (.bool ms) (.slice ads ns cs))
        clear hK K q1 k0 k1 f0 f1
        have q1 := q2
        clear q2
        try simp only [Act.put, x2, x3, x4, x5, x6, x7]
        refine wpAnyH_done (by kernel_rfl) ?_ _
        go_wp2_with fail
        go_meet
        case rel => exact ⟨rfl, _, _, _, _, (id q1).1, (id q1).2.1, (id q1).2.2.1, (id q1).2.2.2.1, (id q1).2.2.2.2.1, (id q1).2.2.2.2.2.1, (id q1).2.2.2.2.2.2.1, (id q1).2.2.2.2.2.2.2.1, (id q1).2.2.2.2.2.2.2.2.1, (id q1).2.2.2.2.2.2.2.2.2.1, HU.out, (id q1).2.2.2.2.2.2.2.2.2.2.1, (id q1).2.2.2.2.2.2.2.2.2.2.2.1, (id q1).2.2.2.2.2.2.2.2.2.2.2.2.1, (id q1).2.2.2.2.2.2.2.2.2.2.2.2.2.1, (id q1).2.2.2.2.2.2.2.2.2.2.2.2.2.2.1, (id q1).2.2.2.2.2.2.2.2.2.2.2.2.2.2.2.1, (id q1).2.2.2.2.2.2.2.2.2.2.2.2.2.2.2.2.1, (id q1).2.2.2.2.2.2.2.2.2.2.2.2.2.2.2.2.2.1, (id q1).2.2.2.2.2.2.2.2.2.2.2.2.2.2.2.2.2.2.1, HNs.out, (id q1).2.2.2.2.2.2.2.2.2.2.2.2.2.2.2.2.2.2.2⟩
      · rw [if_pos (by rfl)]
        go_simp
        go_at_call 36
        (with_reducible refine (times_num _ _ ya (xb * sc - sb * xc) _ (id q1).2.2.2.2.2.2.2.2.2.2.2.1 HNd.out Gya.out Gd2.out).mono ?_); rintro e w1 ⟨vt, rfl, hNt, hb1⟩
        obtain ⟨mt, adt, nt, ct, rfl⟩ := hNt.shape
        have HNt := Lib.hid hNt
        clear hNt
        go_wp2_with fail
        refine hK.out _ _ ?_ (fun q2 => ?_)
        · exact ⟨(id q1).1.below hb1, (id q1).2.1.below hb1, (id q1).2.2.1.below hb1, (id q1).2.2.2.1.below hb1, (id q1).2.2.2.2.1.below hb1, (id q1).2.2.2.2.2.1.below hb1, (id q1).2.2.2.2.2.2.1.below hb1, (id q1).2.2.2.2.2.2.2.1.below hb1, (id q1).2.2.2.2.2.2.2.2.1.below hb1, (id q1).2.2.2.2.2.2.2.2.2.1.below hb1, (id q1).2.2.2.2.2.2.2.2.2.2.1.below hb1, (id q1).2.2.2.2.2.2.2.2.2.2.2.1.below hb1, (id q1).2.2.2.2.2.2.2.2.2.2.2.2.1.below hb1, (id q1).2.2.2.2.2.2.2.2.2.2.2.2.2.1.below hb1, (id q1).2.2.2.2.2.2.2.2.2.2.2.2.2.2.1.below hb1, (id q1).2.2.2.2.2.2.2.2.2.2.2.2.2.2.2.1.below hb1, (id q1).2.2.2.2.2.2.2.2.2.2.2.2.2.2.2.2.1.below hb1, (id q1).2.2.2.2.2.2.2.2.2.2.2.2.2.2.2.2.2.1.below hb1, (id q1).2.2.2.2.2.2.2.2.2.2.2.2.2.2.2.2.2.2.1.below hb1, (id q1).2.2.2.2.2.2.2.2.2.2.2.2.2.2.2.2.2.2.2.below hb1⟩
        replace HU := Lib.hid (HU.out.below hb1)
        replace HNU := Lib.hid (HNU.out.below hb1)
        replace HNd := Lib.hid (HNd.out.below hb1)
        clear hK K q1 hb1
        have q1 := q2
        clear q2
        try simp only [Act.put, x2, x3, x4, x5, x6, x7]
        refine wpAnyH_ready (rs := [0]) (by kernel_rfl) (by simp) ?_
        refine (AllReadyH.cons rfl (fun K hK => ?_) AllReadyH.nil)
        rw [if_pos (by rfl)]
        obtain ⟨k0, k1⟩ := HU.out.two
        go_simp
        refine hK.out _ _ ?_ (fun q2 => ?_)
        · exact q1
        clear hK K q1 k0 k1
        have q1 := q2
        clear q2
        try simp only [Act.put, x2, x3, x4, x5, x6, x7]
        refine wpAnyH_ready (rs := [8]) (by kernel_rfl) (by simp) ?_
        refine (AllReadyH.cons rfl (fun K hK => ?_) AllReadyH.nil)
        rw [if_pos (by rfl)]
        go_simp
        go_at_call 61
        (with_reducible refine (minus_n _ _ (xa * (yb * sc - sb * yc)) (ya * (xb * sc - sb * xc)) Gt1.out Gt2.out _ HNU.out HNt.out).mono ?_); rintro e w1 ⟨vs, rfl, hNs, hb1⟩
        obtain ⟨ms, ads, ns, cs, rfl⟩ := hNs.shape
        have HNs := Lib.hid hNs
        clear hNs
        go_wp2_with fail
        refine hK.out _ _ ?_ (fun q2 => ?_)
        · exact ⟨(id q1).1.below hb1, (id q1).2.1.below hb1, (id q1).2.2.1.below hb1, (id q1).2.2.2.1.below hb1, (id q1).2.2.2.2.1.below hb1, (id q1).2.2.2.2.2.1.below hb1, (id q1).2.2.2.2.2.2.1.below hb1, (id q1).2.2.2.2.2.2.2.1.below hb1, (id q1).2.2.2.2.2.2.2.2.1.below hb1, (id q1).2.2.2.2.2.2.2.2.2.1.below hb1, (id q1).2.2.2.2.2.2.2.2.2.2.1.below hb1, (id q1).2.2.2.2.2.2.2.2.2.2.2.1.below hb1, (id q1).2.2.2.2.2.2.2.2.2.2.2.2.1.below hb1, (id q1).2.2.2.2.2.2.2.2.2.2.2.2.2.1.below hb1, (id q1).2.2.2.2.2.2.2.2.2.2.2.2.2.2.1.below hb1, (id q1).2.2.2.2.2.2.2.2.2.2.2.2.2.2.2.1.below hb1, (id q1).2.2.2.2.2.2.2.2.2.2.2.2.2.2.2.2.1.below hb1, (id q1).2.2.2.2.2.2.2.2.2.2.2.2.2.2.2.2.2.1.below hb1, (id q1).2.2.2.2.2.2.2.2.2.2.2.2.2.2.2.2.2.2.1.below hb1, (id q1).2.2.2.2.2.2.2.2.2.2.2.2.2.2.2.2.2.2.2.below hb1⟩
        replace HU := Lib.hid (HU.out.below hb1)
        replace HNU := Lib.hid (HNU.out.below hb1)
        replace HNd := Lib.hid (HNd.out.below hb1)
        replace HNt := Lib.hid (HNt.out.below hb1)
        clear hK K q1 hb1
        have q1 := q2
        clear q2
        try simp only [Act.put, x2, x3, x4, x5, x6, x7]
        refine wpAnyH_ready (rs := [9]) (by kernel_rfl) (by simp) ?_
        refine (AllReadyH.cons rfl (fun K hK => ?_) AllReadyH.nil)
        rw [if_pos (by rfl)]
        obtain ⟨k0, k1⟩ := HU.out.two
        obtain ⟨f0, f1⟩ := HU.out.free2
        go_simp
        refine hK.out _ _ ?_ (fun q2 => ?_)
        · exact ⟨(((id q1).1.far (by dsimp only; omega) _).far (by dsimp only; omega) _), (((id q1).2.1.far (by dsimp only; omega) _).far (by dsimp only; omega) _), (((id q1).2.2.1.far (by dsimp only; omega) _).far (by dsimp only; omega) _), (((id q1).2.2.2.1.far (by dsimp only; omega) _).far (by dsimp only; omega) _), (((id q1).2.2.2.2.1.far (by dsimp only; omega) _).far (by dsimp only; omega) _), (((id q1).2.2.2.2.2.1.far (by dsimp only; omega) _).far (by dsimp only; omega) _), (((id q1).2.2.2.2.2.2.1.far (by dsimp only; omega) _).far (by dsimp only; omega) _), (((id q1).2.2.2.2.2.2.2.1.far (by dsimp only; omega) _).far (by dsimp only; omega) _), (((id q1).2.2.2.2.2.2.2.2.1.far (by dsimp only; omega) _).far (by dsimp only; omega) _), (((id q1).2.2.2.2.2.2.2.2.2.1.far (by dsimp only; omega) _).far (by dsimp only; omega) _), ((id q1).2.2.2.2.2.2.2.2.2.2.1.res HU.out (ms) (.slice ads ns cs)), ((id q1).2.2.2.2.2.2.2.2.2.2.2.1.res HU.out (ms) (.slice ads ns cs)), ((id q1).2.2.2.2.2.2.2.2.2.2.2.2.1.res HU.out (ms) (.slice ads ns cs)), ((id q1).2.2.2.2.2.2.2.2.2.2.2.2.2.1.res HU.out (ms) (.slice ads ns cs)), ((id q1).2.2.2.2.2.2.2.2.2.2.2.2.2.2.1.res HU.out (ms) (.slice ads ns cs)), ((id q1).2.2.2.2.2.2.2.2.2.2.2.2.2.2.2.1.res HU.out (ms) (.slice ads ns cs)), ((id q1).2.2.2.2.2.2.2.2.2.2.2.2.2.2.2.2.1.res HU.out (ms) (.slice ads ns cs)), ((id q1).2.2.2.2.2.2.2.2.2.2.2.2.2.2.2.2.2.1.res HU.out (ms) (.slice ads ns cs)), ((id q1).2.2.2.2.2.2.2.2.2.2.2.2.2.2.2.2.2.2.1.res HU.out (ms) (.slice ads ns cs)), (((id q1).2.2.2.2.2.2.2.2.2.2.2.2.2.2.2.2.2.2.2.set (by dsimp only; omega) _).set (by dsimp only; omega) _)⟩
        replace HNU := Lib.hid (HNU.out.res HU.out (ms) (.slice ads ns cs))
        replace HNd := Lib.hid (HNd.out.res HU.out (ms) (.slice ads ns cs))
        replace HNt := Lib.hid (HNt.out.res HU.out (ms) (.slice ads ns cs))
        replace HNs := Lib.hid (HNs.out.res HU.out (ms) (.slice ads ns cs))
        replace HU := Lib.hid (HU.out.set2 (.bool ms) (.slice ads ns cs))
        clear hK K q1 k0 k1 f0 f1
        have q1 := q2
        clear q2
        try simp only [Act.put, x2, x3, x4, x5, x6, x7]
        refine wpAnyH_done (by kernel_rfl) ?_ _
        go_wp2_with fail
        go_meet
        case rel => exact ⟨rfl, _, _, _, _, (id q1).1, (id q1).2.1, (id q1).2.2.1, (id q1).2.2.2.1, (id q1).2.2.2.2.1, (id q1).2.2.2.2.2.1, (id q1).2.2.2.2.2.2.1, (id q1).2.2.2.2.2.2.2.1, (id q1).2.2.2.2.2.2.2.2.1, (id q1).2.2.2.2.2.2.2.2.2.1, HU.out, (id q1).2.2.2.2.2.2.2.2.2.2.1, (id q1).2.2.2.2.2.2.2.2.2.2.2.1, (id q1).2.2.2.2.2.2.2.2.2.2.2.2.1, (id q1).2.2.2.2.2.2.2.2.2.2.2.2.2.1, (id q1).2.2.2.2.2.2.2.2.2.2.2.2.2.2.1, (id q1).2.2.2.2.2.2.2.2.2.2.2.2.2.2.2.1, (id q1).2.2.2.2.2.2.2.2.2.2.2.2.2.2.2.2.1, (id q1).2.2.2.2.2.2.2.2.2.2.2.2.2.2.2.2.2.1, (id q1).2.2.2.2.2.2.2.2.2.2.2.2.2.2.2.2.2.2.1, HNs.out, (id q1).2.2.2.2.2.2.2.2.2.2.2.2.2.2.2.2.2.2.2⟩
  case rest =>
  obtain ⟨rfl, m16, ad16, n16, c16, hS0⟩ := hcut
  clear HS0
  have HS0 := Lib.hid hS0
  clear hS0
  have HR6 := Lib.hid HS0.out.1
  have HS9 : Hid ((fun W => Var W (g7) [.bool m7, .slice ad7 n7 c7] ∧ Var W (g8) [.bool m8, .slice ad8 n8 c8] ∧ Var W (g9) [.bool m9, .slice ad9 n9 c9] ∧ Var W (g10) [.bool m10, .slice ad10 n10 c10] ∧ Var W (g11) [.bool m11, .slice ad11 n11 c11] ∧ Var W (g12) [.bool m12, .slice ad12 n12 c12] ∧ Var W (g13) [.bool m13, .slice ad13 n13 c13] ∧ Var W (g14) [.bool m14, .slice ad14 n14 c14] ∧ Var W (g15) [.bool m15, .slice ad15 n15 c15] ∧ Var W (g16) [.bool m16, .slice ad16 n16 c16] ∧ NumIs (.agg #[.bool m7, .slice ad7 n7 c7]) (xa) W ∧ NumIs (.agg #[.bool m8, .slice ad8 n8 c8]) (ya) W ∧ NumIs (.agg #[.bool m9, .slice ad9 n9 c9]) (sa) W ∧ NumIs (.agg #[.bool m10, .slice ad10 n10 c10]) (xb) W ∧ NumIs (.agg #[.bool m11, .slice ad11 n11 c11]) (yb) W ∧ NumIs (.agg #[.bool m12, .slice ad12 n12 c12]) (sb) W ∧ NumIs (.agg #[.bool m13, .slice ad13 n13 c13]) (xc) W ∧ NumIs (.agg #[.bool m14, .slice ad14 n14 c14]) (yc) W ∧ NumIs (.agg #[.bool m15, .slice ad15 n15 c15]) (sc) W ∧ NumIs (.agg #[.bool m16, .slice ad16 n16 c16]) (xa * (yb * sc - sb * yc) - ya * (xb * sc - sb * xc)) W ∧ Grew w 4 W) _) := ⟨HS0.out.2.1, HS0.out.2.2.1, HS0.out.2.2.2.1, HS0.out.2.2.2.2.1, HS0.out.2.2.2.2.2.1, HS0.out.2.2.2.2.2.2.1, HS0.out.2.2.2.2.2.2.2.1, HS0.out.2.2.2.2.2.2.2.2.1, HS0.out.2.2.2.2.2.2.2.2.2.1, HS0.out.2.2.2.2.2.2.2.2.2.2.1, HS0.out.2.2.2.2.2.2.2.2.2.2.2.1, HS0.out.2.2.2.2.2.2.2.2.2.2.2.2.1, HS0.out.2.2.2.2.2.2.2.2.2.2.2.2.2.1, HS0.out.2.2.2.2.2.2.2.2.2.2.2.2.2.2.1, HS0.out.2.2.2.2.2.2.2.2.2.2.2.2.2.2.2.1, HS0.out.2.2.2.2.2.2.2.2.2.2.2.2.2.2.2.2.1, HS0.out.2.2.2.2.2.2.2.2.2.2.2.2.2.2.2.2.2.1, HS0.out.2.2.2.2.2.2.2.2.2.2.2.2.2.2.2.2.2.2.1, HS0.out.2.2.2.2.2.2.2.2.2.2.2.2.2.2.2.2.2.2.2.1, HS0.out.2.2.2.2.2.2.2.2.2.2.2.2.2.2.2.2.2.2.2.2.1, HS0.out.2.2.2.2.2.2.2.2.2.2.2.2.2.2.2.2.2.2.2.2.2⟩
  clear HS0
  have HS0 := HS9
  clear HS9
  go_upto_region 6 with (fail)
  refine wp_region_held_drew (S := fun W => Var W (g7) [.bool m7, .slice ad7 n7 c7] ∧ Var W (g8) [.bool m8, .slice ad8 n8 c8] ∧ Var W (g9) [.bool m9, .slice ad9 n9 c9] ∧ Var W (g10) [.bool m10, .slice ad10 n10 c10] ∧ Var W (g11) [.bool m11, .slice ad11 n11 c11] ∧ Var W (g12) [.bool m12, .slice ad12 n12 c12] ∧ Var W (g13) [.bool m13, .slice ad13 n13 c13] ∧ Var W (g14) [.bool m14, .slice ad14 n14 c14] ∧ Var W (g15) [.bool m15, .slice ad15 n15 c15] ∧ Var W (g16) [.bool m16, .slice ad16 n16 c16] ∧ NumIs (.agg #[.bool m7, .slice ad7 n7 c7]) (xa) W ∧ NumIs (.agg #[.bool m8, .slice ad8 n8 c8]) (ya) W ∧ NumIs (.agg #[.bool m9, .slice ad9 n9 c9]) (sa) W ∧ NumIs (.agg #[.bool m10, .slice ad10 n10 c10]) (xb) W ∧ NumIs (.agg #[.bool m11, .slice ad11 n11 c11]) (yb) W ∧ NumIs (.agg #[.bool m12, .slice ad12 n12 c12]) (sb) W ∧ NumIs (.agg #[.bool m13, .slice ad13 n13 c13]) (xc) W ∧ NumIs (.agg #[.bool m14, .slice ad14 n14 c14]) (yc) W ∧ NumIs (.agg #[.bool m15, .slice ad15 n15 c15]) (sc) W ∧ NumIs (.agg #[.bool m16, .slice ad16 n16 c16]) (xa * (yb * sc - sb * yc) - ya * (xb * sc - sb * xc)) W ∧ Grew w 4 W) (by kernel_rfl) ?_ (fun q1 => ?_)
  · exact ⟨HS0.out.1.below (bel_drew _), HS0.out.2.1.below (bel_drew _), HS0.out.2.2.1.below (bel_drew _), HS0.out.2.2.2.1.below (bel_drew _), HS0.out.2.2.2.2.1.below (bel_drew _), HS0.out.2.2.2.2.2.1.below (bel_drew _), HS0.out.2.2.2.2.2.2.1.below (bel_drew _), HS0.out.2.2.2.2.2.2.2.1.below (bel_drew _), HS0.out.2.2.2.2.2.2.2.2.1.below (bel_drew _), HS0.out.2.2.2.2.2.2.2.2.2.1.below (bel_drew _), HS0.out.2.2.2.2.2.2.2.2.2.2.1.below (bel_drew _), HS0.out.2.2.2.2.2.2.2.2.2.2.2.1.below (bel_drew _), HS0.out.2.2.2.2.2.2.2.2.2.2.2.2.1.below (bel_drew _), HS0.out.2.2.2.2.2.2.2.2.2.2.2.2.2.1.below (bel_drew _), HS0.out.2.2.2.2.2.2.2.2.2.2.2.2.2.2.1.below (bel_drew _), HS0.out.2.2.2.2.2.2.2.2.2.2.2.2.2.2.2.1.below (bel_drew _), HS0.out.2.2.2.2.2.2.2.2.2.2.2.2.2.2.2.2.1.below (bel_drew _), HS0.out.2.2.2.2.2.2.2.2.2.2.2.2.2.2.2.2.2.1.below (bel_drew _), HS0.out.2.2.2.2.2.2.2.2.2.2.2.2.2.2.2.2.2.2.1.below (bel_drew _), HS0.out.2.2.2.2.2.2.2.2.2.2.2.2.2.2.2.2.2.2.2.1.below (bel_drew _), HS0.out.2.2.2.2.2.2.2.2.2.2.2.2.2.2.2.2.2.2.2.2.below (bel_drew _)⟩
  replace HR6 := Lib.hid (HR6.out.below (bel_drew _))
  revert HR6
  revert q1
  generalize World.drew _ = W1
  intro q1 HR6
  refine tk (i := 0) (v := ?_) rfl (Or.inl ⟨by rfl, ?_⟩) ?_
  rotate_left
  · intro Wq hSw
    obtain ⟨k0, k1⟩ := (id hSw).2.2.2.2.2.2.2.2.2.1.two
    clear hSw
    go_simp
    all_goals (with_reducible rfl)
  try simp only [Act.put, x2, x4, x5, x6, x7]
  refine tk (i := 1) (v := ?_) rfl (Or.inl ⟨by rfl, ?_⟩) ?_
  rotate_left
  · intro Wq hSw
    obtain ⟨k0, k1⟩ := (id hSw).2.2.1.two
    clear hSw
    go_simp
    all_goals (with_reducible rfl)
  try simp only [Act.put, x2, x3, x4, x5, x6, x7]
  refine tk (i := 2) (v := ?_) rfl (Or.inl ⟨by rfl, ?_⟩) ?_
  rotate_left
  · intro Wq hSw
    obtain ⟨k0, k1⟩ := (id hSw).2.2.2.1.two
    clear hSw
    go_simp
    all_goals (with_reducible rfl)
  try simp only [Act.put, x2, x3, x4, x5, x6, x7]
  refine tk (i := 3) (v := ?_) rfl (Or.inl ⟨by rfl, ?_⟩) ?_
  rotate_left
  · intro Wq hSw
    obtain ⟨k0, k1⟩ := (id hSw).2.2.2.2.1.two
    clear hSw
    go_simp
    all_goals (with_reducible rfl)
  try simp only [Act.put, x2, x3, x4, x5, x6, x7]
  refine tk (i := 4) (v := ?_) rfl (Or.inl ⟨by rfl, ?_⟩) ?_
  rotate_left
  · intro Wq hSw
    obtain ⟨k0, k1⟩ := (id hSw).2.2.2.2.2.2.1.two
    clear hSw
    go_simp
    all_goals (with_reducible rfl)
  try simp only [Act.put, x2, x3, x4, x5, x6, x7]
  refine tk (i := 5) (v := ?_) rfl (Or.inl ⟨by rfl, ?_⟩) ?_
  rotate_left
  · intro Wq hSw
    obtain ⟨k0, k1⟩ := (id hSw).2.2.2.2.2.2.2.1.two
    clear hSw
    go_simp
    all_goals (with_reducible rfl)
  try simp only [Act.put, x2, x3, x4, x5, x6, x7]
  refine wpAnyH_ready (rs := [6]) (by kernel_rfl) (by simp) ?_
  refine (AllReadyH.cons rfl (fun K hK => ?_) AllReadyH.nil)
  rw [if_pos (by rfl)]
  go_simp
  go_at_call 74
  (with_reducible refine (det_n _ _ _ _ xb yb xc yc Mxb.out Myb.out Mxc.out Myc.out _ (id q1).2.2.2.2.2.2.2.2.2.2.2.2.2.1 (id q1).2.2.2.2.2.2.2.2.2.2.2.2.2.2.1 (id q1).2.2.2.2.2.2.2.2.2.2.2.2.2.2.2.2.1 (id q1).2.2.2.2.2.2.2.2.2.2.2.2.2.2.2.2.2.1).mono ?_); rintro e w1 ⟨vd, rfl, hNd, hb1⟩
  obtain ⟨md, add, nd, cd, rfl⟩ := hNd.shape
  have HNd := Lib.hid hNd
  clear hNd
  go_wp2_with fail
  refine hK.out _ _ ?_ (fun q2 => ?_)
  · exact ⟨(id q1).1.below hb1, (id q1).2.1.below hb1, (id q1).2.2.1.below hb1, (id q1).2.2.2.1.below hb1, (id q1).2.2.2.2.1.below hb1, (id q1).2.2.2.2.2.1.below hb1, (id q1).2.2.2.2.2.2.1.below hb1, (id q1).2.2.2.2.2.2.2.1.below hb1, (id q1).2.2.2.2.2.2.2.2.1.below hb1, (id q1).2.2.2.2.2.2.2.2.2.1.below hb1, (id q1).2.2.2.2.2.2.2.2.2.2.1.below hb1, (id q1).2.2.2.2.2.2.2.2.2.2.2.1.below hb1, (id q1).2.2.2.2.2.2.2.2.2.2.2.2.1.below hb1, (id q1).2.2.2.2.2.2.2.2.2.2.2.2.2.1.below hb1, (id q1).2.2.2.2.2.2.2.2.2.2.2.2.2.2.1.below hb1, (id q1).2.2.2.2.2.2.2.2.2.2.2.2.2.2.2.1.below hb1, (id q1).2.2.2.2.2.2.2.2.2.2.2.2.2.2.2.2.1.below hb1, (id q1).2.2.2.2.2.2.2.2.2.2.2.2.2.2.2.2.2.1.below hb1, (id q1).2.2.2.2.2.2.2.2.2.2.2.2.2.2.2.2.2.2.1.below hb1, (id q1).2.2.2.2.2.2.2.2.2.2.2.2.2.2.2.2.2.2.2.1.below hb1, (id q1).2.2.2.2.2.2.2.2.2.2.2.2.2.2.2.2.2.2.2.2.below hb1⟩
  replace HR6 := Lib.hid (HR6.out.below hb1)
  clear hK K q1 hb1
  have q1 := q2
  clear q2
  try simp only [Act.put, x2, x3, x4, x5, x6, x7]
  refine wpAnyH_ready (rs := [7]) (by kernel_rfl) (by simp) ?_
  refine (AllReadyH.cons rfl (fun K hK => ?_) AllReadyH.nil)
  rw [if_pos (by rfl)]
  go_simp
  go_at_call 36
  (with_reducible refine (times_num _ _ sa (xb * yc - yb * xc) _ (id q1).2.2.2.2.2.2.2.2.2.2.2.2.1 HNd.out Gsa.out Gd3.out).mono ?_); rintro e w1 ⟨vt, rfl, hNt, hb1⟩
  obtain ⟨mt, adt, nt, ct, rfl⟩ := hNt.shape
  have HNt := Lib.hid hNt
  clear hNt
  go_wp2_with fail
  refine hK.out _ _ ?_ (fun q2 => ?_)
  · exact ⟨(id q1).1.below hb1, (id q1).2.1.below hb1, (id q1).2.2.1.below hb1, (id q1).2.2.2.1.below hb1, (id q1).2.2.2.2.1.below hb1, (id q1).2.2.2.2.2.1.below hb1, (id q1).2.2.2.2.2.2.1.below hb1, (id q1).2.2.2.2.2.2.2.1.below hb1, (id q1).2.2.2.2.2.2.2.2.1.below hb1, (id q1).2.2.2.2.2.2.2.2.2.1.below hb1, (id q1).2.2.2.2.2.2.2.2.2.2.1.below hb1, (id q1).2.2.2.2.2.2.2.2.2.2.2.1.below hb1, (id q1).2.2.2.2.2.2.2.2.2.2.2.2.1.below hb1, (id q1).2.2.2.2.2.2.2.2.2.2.2.2.2.1.below hb1, (id q1).2.2.2.2.2.2.2.2.2.2.2.2.2.2.1.below hb1, (id q1).2.2.2.2.2.2.2.2.2.2.2.2.2.2.2.1.below hb1, (id q1).2.2.2.2.2.2.2.2.2.2.2.2.2.2.2.2.1.below hb1, (id q1).2.2.2.2.2.2.2.2.2.2.2.2.2.2.2.2.2.1.below hb1, (id q1).2.2.2.2.2.2.2.2.2.2.2.2.2.2.2.2.2.2.1.below hb1, (id q1).2.2.2.2.2.2.2.2.2.2.2.2.2.2.2.2.2.2.2.1.below hb1, (id q1).2.2.2.2.2.2.2.2.2.2.2.2.2.2.2.2.2.2.2.2.below hb1⟩
  replace HR6 := Lib.hid (HR6.out.below hb1)
  replace HNd := Lib.hid (HNd.out.below hb1)
  clear hK K q1 hb1
  have q1 := q2
  clear q2
  try simp only [Act.put, x2, x3, x4, x5, x6, x7]
  refine wpAnyH_ready (rs := [8]) (by kernel_rfl) (by simp) ?_
  refine (AllReadyH.cons rfl (fun K hK => ?_) AllReadyH.nil)
  rw [if_pos (by rfl)]
  go_simp
  go_at_call 38
  (with_reducible refine (plus_c _ _ (xa * (yb * sc - sb * yc) - ya * (xb * sc - sb * xc)) (sa * (xb * yc - yb * xc)) _ (id q1).2.2.2.2.2.2.2.2.2.2.2.2.2.2.2.2.2.2.2.1 HNt.out Gs2.out Gt3.out).mono ?_); rintro e w1 ⟨vs, rfl, hNs, hb1⟩
  obtain ⟨ms, ads, ns, cs, rfl⟩ := hNs.shape
  have HNs := Lib.hid hNs
  clear hNs
  go_wp2_with fail
  refine hK.out _ _ ?_ (fun q2 => ?_)
  · exact ⟨(id q1).1.below hb1, (id q1).2.1.below hb1, (id q1).2.2.1.below hb1, (id q1).2.2.2.1.below hb1, (id q1).2.2.2.2.1.below hb1, (id q1).2.2.2.2.2.1.below hb1, (id q1).2.2.2.2.2.2.1.below hb1, (id q1).2.2.2.2.2.2.2.1.below hb1, (id q1).2.2.2.2.2.2.2.2.1.below hb1, (id q1).2.2.2.2.2.2.2.2.2.1.below hb1, (id q1).2.2.2.2.2.2.2.2.2.2.1.below hb1, (id q1).2.2.2.2.2.2.2.2.2.2.2.1.below hb1, (id q1).2.2.2.2.2.2.2.2.2.2.2.2.1.below hb1, (id q1).2.2.2.2.2.2.2.2.2.2.2.2.2.1.below hb1, (id q1).2.2.2.2.2.2.2.2.2.2.2.2.2.2.1.below hb1, (id q1).2.2.2.2.2.2.2.2.2.2.2.2.2.2.2.1.below hb1, (id q1).2.2.2.2.2.2.2.2.2.2.2.2.2.2.2.2.1.below hb1, (id q1).2.2.2.2.2.2.2.2.2.2.2.2.2.2.2.2.2.1.below hb1, (id q1).2.2.2.2.2.2.2.2.2.2.2.2.2.2.2.2.2.2.1.below hb1, (id q1).2.2.2.2.2.2.2.2.2.2.2.2.2.2.2.2.2.2.2.1.below hb1, (id q1).2.2.2.2.2.2.2.2.2.2.2.2.2.2.2.2.2.2.2.2.below hb1⟩
  replace HR6 := Lib.hid (HR6.out.below hb1)
  replace HNd := Lib.hid (HNd.out.below hb1)
  replace HNt := Lib.hid (HNt.out.below hb1)
  clear hK K q1 hb1
  have q1 := q2
  clear q2
  try simp only [Act.put, x2, x3, x4, x5, x6, x7]
  refine wpAnyH_ready (rs := [9]) (by kernel_rfl) (by simp) ?_
  refine (AllReadyH.cons rfl (fun K hK => ?_) AllReadyH.nil)
  rw [if_pos (by rfl)]
  obtain ⟨k0, k1⟩ := HR6.out.two
  obtain ⟨f0, f1⟩ := HR6.out.free2
  go_simp
  refine hK.out _ _ ?_ (fun q2 => ?_)
  · exact ⟨(((id q1).1.far (by dsimp only; omega) _).far (by dsimp only; omega) _), (((id q1).2.1.far (by dsimp only; omega) _).far (by dsimp only; omega) _), (((id q1).2.2.1.far (by dsimp only; omega) _).far (by dsimp only; omega) _), (((id q1).2.2.2.1.far (by dsimp only; omega) _).far (by dsimp only; omega) _), (((id q1).2.2.2.2.1.far (by dsimp only; omega) _).far (by dsimp only; omega) _), (((id q1).2.2.2.2.2.1.far (by dsimp only; omega) _).far (by dsimp only; omega) _), (((id q1).2.2.2.2.2.2.1.far (by dsimp only; omega) _).far (by dsimp only; omega) _), (((id q1).2.2.2.2.2.2.2.1.far (by dsimp only; omega) _).far (by dsimp only; omega) _), (((id q1).2.2.2.2.2.2.2.2.1.far (by dsimp only; omega) _).far (by dsimp only; omega) _), (((id q1).2.2.2.2.2.2.2.2.2.1.far (by dsimp only; omega) _).far (by dsimp only; omega) _), ((id q1).2.2.2.2.2.2.2.2.2.2.1.res HR6.out (ms) (.slice ads ns cs)), ((id q1).2.2.2.2.2.2.2.2.2.2.2.1.res HR6.out (ms) (.slice ads ns cs)), ((id q1).2.2.2.2.2.2.2.2.2.2.2.2.1.res HR6.out (ms) (.slice ads ns cs)), ((id q1).2.2.2.2.2.2.2.2.2.2.2.2.2.1.res HR6.out (ms) (.slice ads ns cs)), ((id q1).2.2.2.2.2.2.2.2.2.2.2.2.2.2.1.res HR6.out (ms) (.slice ads ns cs)), ((id q1).2.2.2.2.2.2.2.2.2.2.2.2.2.2.2.1.res HR6.out (ms) (.slice ads ns cs)), ((id q1).2.2.2.2.2.2.2.2.2.2.2.2.2.2.2.2.1.res HR6.out (ms) (.slice ads ns cs)), ((id q1).2.2.2.2.2.2.2.2.2.2.2.2.2.2.2.2.2.1.res HR6.out (ms) (.slice ads ns cs)), ((id q1).2.2.2.2.2.2.2.2.2.2.2.2.2.2.2.2.2.2.1.res HR6.out (ms) (.slice ads ns cs)), ((id q1).2.2.2.2.2.2.2.2.2.2.2.2.2.2.2.2.2.2.2.1.res HR6.out (ms) (.slice ads ns cs)), (((id q1).2.2.2.2.2.2.2.2.2.2.2.2.2.2.2.2.2.2.2.2.set (by dsimp only; omega) _).set (by dsimp only; omega) _)⟩
  replace HNd := Lib.hid (HNd.out.res HR6.out (ms) (.slice ads ns cs))
  replace HNt := Lib.hid (HNt.out.res HR6.out (ms) (.slice ads ns cs))
  replace HNs := Lib.hid (HNs.out.res HR6.out (ms) (.slice ads ns cs))
  replace HR6 := Lib.hid (HR6.out.set2 (.bool ms) (.slice ads ns cs))
  clear hK K q1 k0 k1 f0 f1
  have q1 := q2
  clear q2
  try simp only [Act.put, x2, x3, x4, x5, x6, x7]
  refine wpAnyH_done (by kernel_rfl) ?_ _
  go_wp2_with fail
  obtain ⟨k0, k1⟩ := HR6.out.two
  refine bodyPost_ret (v := .agg #[.bool ms, .slice ads ns cs]) (by simp [results, Try.results62, go_sem, k0, k1]; done) rfl ⟨_, rfl, HNs.out, (id q1).2.2.2.2.2.2.2.2.2.2.2.2.2.2.2.2.2.2.2.2.hb⟩
end Go.Proofs.Ytojfggnimmaemaa

/-
  Contract of the document's InCircle.
-/
namespace Go.Proofs.Ytojfggnimmaemaa
open Go.RowKit

/-- the determinant of four rows is that of three, as seen from the fourth place -/
theorem four_is (a b c d : Pt) : threeZ a b c - threeZ a b d + threeZ a c d - threeZ b c d = liftZ a b c d := by
  unfold threeZ liftZ sqZ crossZ sqO
  grind
theorem circ_refs (a b c d : Pt) : circZ a b c d = if fitB a && fitB b && fitB c && fitB d then sg3 (threeZ a b c - threeZ a b d + threeZ a c d - threeZ b c d) * orientZ a b c else 0 := by
  unfold circZ
  rw [four_is]
  by_cases h : (fitB a && fitB b && fitB c && fitB d) = true
  · rw [if_pos h, if_pos h]
    obtain ⟨fa, fb, fc, -⟩ := and4 h
    unfold orientZ
    rw [fa, fb, fc]
    rfl
  · rw [if_neg h, if_neg h]

set_option maxHeartbeats 16000000 in
set_option maxRecDepth 100000 in
theorem refCirc_l (a b c d : Pt) (w : World) : Calls Try.prog 23 #[.agg #[.int .i64 a.x, .int .i64 a.y], .agg #[.int .i64 b.x, .int .i64 b.y], .agg #[.int .i64 c.x, .int .i64 c.y], .agg #[.int .i64 d.x, .int .i64 d.y]] w (Gives (.int .i64 (circZ a b c d)) w) := by
  have F1 := Lib.hid (fun W => refFits3_l a W)
  have F2 := Lib.hid (fun W => refFits3_l b W)
  have F3 := Lib.hid (fun W => refFits3_l c W)
  have F4 := Lib.hid (fun W => refFits3_l d W)
  have CO := Lib.hid (fun W => refOrient_l a b c W)
  have hv := orient_vals a b c
  have HP : Hid (circZ a b c d = if fitB a && fitB b && fitB c && fitB d then sg3 (threeZ a b c - threeZ a b d + threeZ a c d - threeZ b c d) * orientZ a b c else 0) := circ_refs a b c d
  have HT : Hid (fitB a = true → fitB b = true → fitB c = true → fitB d = true →
      ((∀ W, Calls Try.prog 62 #[.agg #[.int .i64 a.x, .int .i64 a.y], .agg #[.int .i64 b.x, .int .i64 b.y], .agg #[.int .i64 c.x, .int .i64 c.y]] W (NumP (threeZ a b c) W)) ∧ (∀ W, Calls Try.prog 62 #[.agg #[.int .i64 a.x, .int .i64 a.y], .agg #[.int .i64 b.x, .int .i64 b.y], .agg #[.int .i64 d.x, .int .i64 d.y]] W (NumP (threeZ a b d) W)) ∧ (∀ W, Calls Try.prog 62 #[.agg #[.int .i64 a.x, .int .i64 a.y], .agg #[.int .i64 c.x, .int .i64 c.y], .agg #[.int .i64 d.x, .int .i64 d.y]] W (NumP (threeZ a c d) W)) ∧ (∀ W, Calls Try.prog 62 #[.agg #[.int .i64 b.x, .int .i64 b.y], .agg #[.int .i64 c.x, .int .i64 c.y], .agg #[.int .i64 d.x, .int .i64 d.y]] W (NumP (threeZ b c d) W))) ∧
      ((Ab (threeZ a b c) 6277101735386680763835789423207666416102355444464034512896 ∧ Ab (threeZ a b d) 6277101735386680763835789423207666416102355444464034512896) ∧ (Ab (threeZ a c d) 6277101735386680763835789423207666416102355444464034512896 ∧ Ab (threeZ b c d) 6277101735386680763835789423207666416102355444464034512896))) := fun fa fb fc fd =>
    ⟨⟨fun W => three_n a b c fa fb fc W, fun W => three_n a b d fa fb fd W, fun W => three_n a c d fa fc fd W, fun W => three_n b c d fb fc fd W⟩, ⟨three_ab fa fb fc, three_ab fa fb fd⟩, three_ab fa fc fd, three_ab fb fc fd⟩
  generalize threeZ a b c = t1 at *
  generalize threeZ a b d = t2 at *
  generalize threeZ a c d = t3 at *
  generalize threeZ b c d = t4 at *
  generalize orientZ a b c = oz at *
  generalize fitB a = fa at *
  generalize fitB b = fb at *
  generalize fitB c = fc at *
  generalize fitB d = fd at *
  have HV := Lib.hid hv
  clear hv
  go_enter Try.func23, Try.ntmps23
  go_upto_region 1 with (fail)
  refine wp_abs (fun W => Var W (w.heap.size) [.int .i64 a.x, .int .i64 a.y] ∧ Var W (w.heap.size + 1) [.int .i64 b.x, .int .i64 b.y] ∧ Var W (w.heap.size + 1 + 1) [.int .i64 c.x, .int .i64 c.y] ∧ Var W (w.heap.size + 1 + 1 + 1) [.int .i64 d.x, .int .i64 d.y] ∧ Grew w 4 W) ?_ ?_
  · exact ⟨(var2_new _ _ _ _ _ rfl).below (bl_alloc (bl_alloc (bl_one _ _) _) _), (var2_new _ _ _ _ _ (by simp)).below (bl_alloc (bl_one _ _) _), (var2_new _ _ _ _ _ (by simp)).below (bl_one _ _), var2_new _ _ _ _ _ (by simp), by repeat (first | (with_reducible exact Below.refl _ _) | (with_reducible refine bl_alloc ?_ _) | (with_reducible refine Below.drew ?_) | (with_reducible refine below_drewN' ?_ _) | ((with_reducible refine bl_set ?_ ?_ _); (rotate_left; (dsimp only; omega)))), by simp⟩
  rintro W0 hS0
  have HS0 := Lib.hid hS0
  clear hS0
  obtain ⟨c0, c1⟩ := HS0.out.1.two
  obtain ⟨c2, c3⟩ := HS0.out.2.1.two
  obtain ⟨c4, c5⟩ := HS0.out.2.2.1.two
  obtain ⟨c6, c7⟩ := HS0.out.2.2.2.1.two
  go_wp2_with fail
  (with_reducible refine (F1.out _).mono ?_); rintro e w1 ⟨rfl, hb1⟩
  replace HS0 : Hid ((fun W => Var W (w.heap.size) [.int .i64 a.x, .int .i64 a.y] ∧ Var W (w.heap.size + 1) [.int .i64 b.x, .int .i64 b.y] ∧ Var W (w.heap.size + 1 + 1) [.int .i64 c.x, .int .i64 c.y] ∧ Var W (w.heap.size + 1 + 1 + 1) [.int .i64 d.x, .int .i64 d.y] ∧ Grew w 4 W) w1) := ⟨HS0.out.1.below hb1, HS0.out.2.1.below hb1, HS0.out.2.2.1.below hb1, HS0.out.2.2.2.1.below hb1, HS0.out.2.2.2.2.below hb1⟩
  clear c0 c1 c2 c3 c4 c5 c6 c7 hb1
  obtain ⟨c0, c1⟩ := HS0.out.1.two
  obtain ⟨c2, c3⟩ := HS0.out.2.1.two
  obtain ⟨c4, c5⟩ := HS0.out.2.2.1.two
  obtain ⟨c6, c7⟩ := HS0.out.2.2.2.1.two
  cases fa
  case false =>
    go_wp2
    go_ret
    exact ⟨by rw [HP.out]; simp, HS0.out.2.2.2.2.hb⟩
  case true =>
  go_wp2_with fail
  (with_reducible refine (F2.out _).mono ?_); rintro e w1 ⟨rfl, hb1⟩
  replace HS0 : Hid ((fun W => Var W (w.heap.size) [.int .i64 a.x, .int .i64 a.y] ∧ Var W (w.heap.size + 1) [.int .i64 b.x, .int .i64 b.y] ∧ Var W (w.heap.size + 1 + 1) [.int .i64 c.x, .int .i64 c.y] ∧ Var W (w.heap.size + 1 + 1 + 1) [.int .i64 d.x, .int .i64 d.y] ∧ Grew w 4 W) w1) := ⟨HS0.out.1.below hb1, HS0.out.2.1.below hb1, HS0.out.2.2.1.below hb1, HS0.out.2.2.2.1.below hb1, HS0.out.2.2.2.2.below hb1⟩
  clear c0 c1 c2 c3 c4 c5 c6 c7 hb1
  obtain ⟨c0, c1⟩ := HS0.out.1.two
  obtain ⟨c2, c3⟩ := HS0.out.2.1.two
  obtain ⟨c4, c5⟩ := HS0.out.2.2.1.two
  obtain ⟨c6, c7⟩ := HS0.out.2.2.2.1.two
  cases fb
  case false =>
    go_wp2
    go_ret
    exact ⟨by rw [HP.out]; simp, HS0.out.2.2.2.2.hb⟩
  case true =>
  go_wp2_with fail
  (with_reducible refine (F3.out _).mono ?_); rintro e w1 ⟨rfl, hb1⟩
  replace HS0 : Hid ((fun W => Var W (w.heap.size) [.int .i64 a.x, .int .i64 a.y] ∧ Var W (w.heap.size + 1) [.int .i64 b.x, .int .i64 b.y] ∧ Var W (w.heap.size + 1 + 1) [.int .i64 c.x, .int .i64 c.y] ∧ Var W (w.heap.size + 1 + 1 + 1) [.int .i64 d.x, .int .i64 d.y] ∧ Grew w 4 W) w1) := ⟨HS0.out.1.below hb1, HS0.out.2.1.below hb1, HS0.out.2.2.1.below hb1, HS0.out.2.2.2.1.below hb1, HS0.out.2.2.2.2.below hb1⟩
  clear c0 c1 c2 c3 c4 c5 c6 c7 hb1
  obtain ⟨c0, c1⟩ := HS0.out.1.two
  obtain ⟨c2, c3⟩ := HS0.out.2.1.two
  obtain ⟨c4, c5⟩ := HS0.out.2.2.1.two
  obtain ⟨c6, c7⟩ := HS0.out.2.2.2.1.two
  cases fc
  case false =>
    go_wp2
    go_ret
    exact ⟨by rw [HP.out]; simp, HS0.out.2.2.2.2.hb⟩
  case true =>
  go_wp2_with fail
  (with_reducible refine (F4.out _).mono ?_); rintro e w1 ⟨rfl, hb1⟩
  replace HS0 : Hid ((fun W => Var W (w.heap.size) [.int .i64 a.x, .int .i64 a.y] ∧ Var W (w.heap.size + 1) [.int .i64 b.x, .int .i64 b.y] ∧ Var W (w.heap.size + 1 + 1) [.int .i64 c.x, .int .i64 c.y] ∧ Var W (w.heap.size + 1 + 1 + 1) [.int .i64 d.x, .int .i64 d.y] ∧ Grew w 4 W) w1) := ⟨HS0.out.1.below hb1, HS0.out.2.1.below hb1, HS0.out.2.2.1.below hb1, HS0.out.2.2.2.1.below hb1, HS0.out.2.2.2.2.below hb1⟩
  clear c0 c1 c2 c3 c4 c5 c6 c7 hb1
  obtain ⟨c0, c1⟩ := HS0.out.1.two
  obtain ⟨c2, c3⟩ := HS0.out.2.1.two
  obtain ⟨c4, c5⟩ := HS0.out.2.2.1.two
  obtain ⟨c6, c7⟩ := HS0.out.2.2.2.1.two
  cases fd
  case false =>
    go_wp2
    go_ret
    exact ⟨by rw [HP.out]; simp, HS0.out.2.2.2.2.hb⟩
  case true =>
  obtain ⟨⟨k1, k2, k3, k4⟩, ⟨A1, A2⟩, A3, A4⟩ := HT.out (by trivial) (by trivial) (by trivial) (by trivial)
  have T1 := Lib.hid k1
  have T2 := Lib.hid k2
  have T3 := Lib.hid k3
  have T4 := Lib.hid k4
  have G1 := Lib.hid (A1.big (by decide))
  have G2 := Lib.hid (A2.big (by decide))
  have G3 := Lib.hid (A3.big (by decide))
  have G4 := Lib.hid (A4.big (by decide))
  have G12 := Lib.hid ((A1.sub A2).big (by decide))
  have G123 := Lib.hid (((A1.sub A2).add A3).big (by decide))
  have HQ : Hid (circZ a b c d = sg3 (t1 - t2 + t3 - t4) * oz) := by unfold Hid; rw [HP.out]; simp
  clear F1 F2 F3 F4 HT HP k1 k2 k3 k4 A1 A2 A3 A4 c0 c1 c2 c3 c4 c5 c6 c7
  go_upto_region 3 with (fail)
  go_cut [9] (fun pv W => ∃ g9 : Nat, ∃ (m9 : Bool) (ad9 : Option Addr) (n9 c9 : Nat), pv = .pointer (some ⟨g9, 0, none⟩) ∧ (w.heap.size + 4 ≤ g9) ∧ Var W (g9) [.bool m9, .slice ad9 n9 c9] ∧ NumIs (.agg #[.bool m9, .slice ad9 n9 c9]) (t1 - t2) W ∧ (fun W => Var W (w.heap.size) [.int .i64 a.x, .int .i64 a.y] ∧ Var W (w.heap.size + 1) [.int .i64 b.x, .int .i64 b.y] ∧ Var W (w.heap.size + 1 + 1) [.int .i64 c.x, .int .i64 c.y] ∧ Var W (w.heap.size + 1 + 1 + 1) [.int .i64 d.x, .int .i64 d.y] ∧ Grew w 4 W) W)
  case first =>
    clear HQ HV CO
    refine wp_region_held_drew (S := fun W => Var W (w.heap.size) [.int .i64 a.x, .int .i64 a.y] ∧ Var W (w.heap.size + 1) [.int .i64 b.x, .int .i64 b.y] ∧ Var W (w.heap.size + 1 + 1) [.int .i64 c.x, .int .i64 c.y] ∧ Var W (w.heap.size + 1 + 1 + 1) [.int .i64 d.x, .int .i64 d.y] ∧ Grew w 4 W) (by kernel_rfl) ?_ (fun q1 => ?_)
    · exact ⟨HS0.out.1.below (bel_drew _), HS0.out.2.1.below (bel_drew _), HS0.out.2.2.1.below (bel_drew _), HS0.out.2.2.2.1.below (bel_drew _), HS0.out.2.2.2.2.below (bel_drew _)⟩
    revert q1
    generalize World.drew _ = W1
    intro q1 
    refine tk (i := 0) (v := ?_) rfl (Or.inl ⟨by rfl, ?_⟩) ?_
    rotate_left
    · intro Wq hSw
      obtain ⟨k0, k1⟩ := (id hSw).1.two
      clear hSw
      go_simp
      all_goals (with_reducible rfl)
    try simp only [Act.put, x2, x4, x5, x6, x7]
    refine tk (i := 1) (v := ?_) rfl (Or.inl ⟨by rfl, ?_⟩) ?_
    rotate_left
    · intro Wq hSw
      obtain ⟨k0, k1⟩ := (id hSw).2.1.two
      clear hSw
      go_simp
      all_goals (with_reducible rfl)
    try simp only [Act.put, x2, x3, x4, x5, x6, x7]
    refine tk (i := 2) (v := ?_) rfl (Or.inl ⟨by rfl, ?_⟩) ?_
    rotate_left
    · intro Wq hSw
      obtain ⟨k0, k1⟩ := (id hSw).2.2.1.two
      clear hSw
      go_simp
      all_goals (with_reducible rfl)
    try simp only [Act.put, x2, x3, x4, x5, x6, x7]
    refine tk (i := 4) (v := ?_) rfl (Or.inl ⟨by rfl, ?_⟩) ?_
    rotate_left
    · intro Wq hSw
      obtain ⟨k0, k1⟩ := (id hSw).1.two
      clear hSw
      go_simp
      all_goals (with_reducible rfl)
    try simp only [Act.put, x2, x3, x4, x5, x6, x7]
    refine tk (i := 5) (v := ?_) rfl (Or.inl ⟨by rfl, ?_⟩) ?_
    rotate_left
    · intro Wq hSw
      obtain ⟨k0, k1⟩ := (id hSw).2.1.two
      clear hSw
      go_simp
      all_goals (with_reducible rfl)
    try simp only [Act.put, x2, x3, x4, x5, x6, x7]
    refine tk (i := 6) (v := ?_) rfl (Or.inl ⟨by rfl, ?_⟩) ?_
    rotate_left
    · intro Wq hSw
      obtain ⟨k0, k1⟩ := (id hSw).2.2.2.1.two
      clear hSw
      go_simp
      all_goals (with_reducible rfl)
    try simp only [Act.put, x2, x3, x4, x5, x6, x7]
    refine wpAnyH_ready (rs := [3, 9]) (by kernel_rfl) (by simp) ?_
    refine (AllReadyH.cons rfl (fun K hK => ?_) (AllReadyH.cons rfl (fun K hK => ?_) AllReadyH.nil))
    · rw [if_pos (by rfl)]
      go_simp
      go_at_call 62
      (with_reducible refine (T1.out _).mono ?_); rintro e w1 ⟨va, rfl, hNa, hb1⟩
      obtain ⟨ma, ada, na, ca, rfl⟩ := hNa.shape
      have HNa := Lib.hid hNa
      clear hNa
      go_wp2_with fail
      refine hK.out _ _ ?_ (fun q2 => ?_)
      · exact ⟨(id q1).1.below hb1, (id q1).2.1.below hb1, (id q1).2.2.1.below hb1, (id q1).2.2.2.1.below hb1, (id q1).2.2.2.2.below hb1⟩
      clear hK K q1 hb1
      have q1 := q2
      clear q2
      try simp only [Act.put, x2, x3, x4, x5, x6, x7]
      refine wpAnyH_ready (rs := [7, 9]) (by kernel_rfl) (by simp) ?_
      refine (AllReadyH.cons rfl (fun K hK => ?_) (AllReadyH.cons rfl (fun K hK => ?_) AllReadyH.nil))
      · rw [if_pos (by rfl)]
        go_simp
        go_at_call 62
        (with_reducible refine (T2.out _).mono ?_); rintro e w1 ⟨vb, rfl, hNb, hb1⟩
        obtain ⟨mb, adb, nb, cb, rfl⟩ := hNb.shape
        have HNb := Lib.hid hNb
        clear hNb
        go_wp2_with fail
        refine hK.out _ _ ?_ (fun q2 => ?_)
        · exact ⟨(id q1).1.below hb1, (id q1).2.1.below hb1, (id q1).2.2.1.below hb1, (id q1).2.2.2.1.below hb1, (id q1).2.2.2.2.below hb1⟩
        replace HNa := Lib.hid (HNa.out.below hb1)
        clear hK K q1 hb1
        have q1 := q2
        clear q2
        try simp only [Act.put, x2, x3, x4, x5, x6, x7]
        refine wpAnyH_ready (rs := [8, 9]) (by kernel_rfl) (by simp) ?_
        refine (AllReadyH.cons rfl (fun K hK => ?_) (AllReadyH.cons rfl (fun K hK => ?_) AllReadyH.nil))
        · rw [if_pos (by rfl)]
          go_simp
          go_at_call 61
          (with_reducible refine (minus_n _ _ t1 t2 G1.out G2.out _ HNa.out HNb.out).mono ?_); rintro e w1 ⟨vc, rfl, hNc, hb1⟩
          obtain ⟨mc, adc, nc, cc, rfl⟩ := hNc.shape
          have HNc := Lib.hid hNc
          clear hNc
          go_wp2_with fail
          refine hK.out _ _ ?_ (fun q2 => ?_)
          · exact ⟨(id q1).1.below hb1, (id q1).2.1.below hb1, (id q1).2.2.1.below hb1, (id q1).2.2.2.1.below hb1, (id q1).2.2.2.2.below hb1⟩
          replace HNa := Lib.hid (HNa.out.below hb1)
          replace HNb := Lib.hid (HNb.out.below hb1)
          clear hK K q1 hb1
          have q1 := q2
          clear q2
          try simp only [Act.put, x2, x3, x4, x5, x6, x7]
          refine wpAnyH_ready (rs := [9]) (by kernel_rfl) (by simp) ?_
          refine (AllReadyH.cons rfl (fun K hK => ?_) AllReadyH.nil)
          rw [if_pos (by rfl)]
          go_simp
          refine hK.out _ _ ?_ (fun q2 => ?_)
          · exact ⟨(id q1).1.below (bl_one _ _), (id q1).2.1.below (bl_one _ _), (id q1).2.2.1.below (bl_one _ _), (id q1).2.2.2.1.below (bl_one _ _), (id q1).2.2.2.2.below (bl_one _ _)⟩
          replace HNa := Lib.hid (HNa.out.below (al_of (id q2).2.2.2.2 (bl_one _ _)))
          replace HNb := Lib.hid (HNb.out.below (al_of (id q2).2.2.2.2 (bl_one _ _)))
          replace HNc := Lib.hid (HNc.out.below (al_of (id q2).2.2.2.2 (bl_one _ _)))
          have hgeHX := (id q1).2.2.2.2.sz
          have HX := Lib.hid ((id q1).2.2.2.2.var2 (.bool false) (.slice none 0 0) 42)
          clear hK K q1
          have q1 := q2
          clear q2
          try simp only [Act.put, x2, x3, x4, x5, x6, x7]
          revert HNa
          revert HNb
          revert HNc
          revert HX
          revert q1
          generalize World.alloc _ _ = W2
          intro q1 HX HNc HNb HNa
          refine wpAnyH_ready (rs := [10]) (by kernel_rfl) (by simp) ?_
          refine (AllReadyH.cons rfl (fun K hK => ?_) AllReadyH.nil)
          rw [if_pos (by rfl)]
          obtain ⟨k0, k1⟩ := HX.out.two
          obtain ⟨f0, f1⟩ := HX.out.free2
          go_simp
          refine hK.out _ _ ?_ (fun q2 => ?_)
          · exact ⟨(((id q1).1.far (by dsimp only; omega) _).far (by dsimp only; omega) _), (((id q1).2.1.far (by dsimp only; omega) _).far (by dsimp only; omega) _), (((id q1).2.2.1.far (by dsimp only; omega) _).far (by dsimp only; omega) _), (((id q1).2.2.2.1.far (by dsimp only; omega) _).far (by dsimp only; omega) _), (((id q1).2.2.2.2.set (by dsimp only; omega) _).set (by dsimp only; omega) _)⟩
          replace HNa := Lib.hid (HNa.out.res HX.out (mc) (.slice adc nc cc))
          replace HNb := Lib.hid (HNb.out.res HX.out (mc) (.slice adc nc cc))
          replace HNc := Lib.hid (HNc.out.res HX.out (mc) (.slice adc nc cc))
          replace HX := Lib.hid (HX.out.set2 (.bool mc) (.slice adc nc cc))
          clear hK K q1 k0 k1 f0 f1
          have q1 := q2
          clear q2
          try simp only [Act.put, x2, x3, x4, x5, x6, x7]
          refine wpAnyH_done (by kernel_rfl) ?_ _
          go_wp2_with fail
          go_meet
          case rel => exact ⟨_, _, _, _, _, rfl, hgeHX, HX.out, HNc.out, id q1⟩
        · rw [if_pos (by rfl)]
          go_simp
          refine hK.out _ _ ?_ (fun q2 => ?_)
          · exact ⟨(id q1).1.below (bl_one _ _), (id q1).2.1.below (bl_one _ _), (id q1).2.2.1.below (bl_one _ _), (id q1).2.2.2.1.below (bl_one _ _), (id q1).2.2.2.2.below (bl_one _ _)⟩
          replace HNa := Lib.hid (HNa.out.below (al_of (id q2).2.2.2.2 (bl_one _ _)))
          replace HNb := Lib.hid (HNb.out.below (al_of (id q2).2.2.2.2 (bl_one _ _)))
          have hgeHX := (id q1).2.2.2.2.sz
          have HX := Lib.hid ((id q1).2.2.2.2.var2 (.bool false) (.slice none 0 0) 42)
          clear hK K q1
          have q1 := q2
          clear q2
          try simp only [Act.put, x2, x3, x4, x5, x6, x7]
          revert HNa
          revert HNb
          revert HX
          revert q1
          generalize World.alloc _ _ = W2
          intro q1 HX HNb HNa
          refine wpAnyH_ready (rs := [8]) (by kernel_rfl) (by simp) ?_
          refine (AllReadyH.cons rfl (fun K hK => ?_) AllReadyH.nil)
          rw [if_pos (by rfl)]
          go_simp
          go_at_call 61
          (with_reducible refine (minus_n _ _ t1 t2 G1.out G2.out _ HNa.out HNb.out).mono ?_); rintro e w1 ⟨vc, rfl, hNc, hb1⟩
          obtain ⟨mc, adc, nc, cc, rfl⟩ := hNc.shape
          have HNc := Lib.hid hNc
          clear hNc
          go_wp2_with fail
          refine hK.out _ _ ?_ (fun q2 => ?_)
          · exact ⟨(id q1).1.below hb1, (id q1).2.1.below hb1, (id q1).2.2.1.below hb1, (id q1).2.2.2.1.below hb1, (id q1).2.2.2.2.below hb1⟩
          replace HNa := Lib.hid (HNa.out.below hb1)
          replace HNb := Lib.hid (HNb.out.below hb1)
          replace HX := Lib.hid (HX.out.below hb1)
          clear hK K q1 hb1
          have q1 := q2
          clear q2
          try simp only [Act.put, x2, x3, x4, x5, x6, x7]
          refine wpAnyH_ready (rs := [10]) (by kernel_rfl) (by simp) ?_
          refine (AllReadyH.cons rfl (fun K hK => ?_) AllReadyH.nil)
          rw [if_pos (by rfl)]
          obtain ⟨k0, k1⟩ := HX.out.two
          obtain ⟨f0, f1⟩ := HX.out.free2
          go_simp
          refine hK.out _ _ ?_ (fun q2 => ?_)
          · exact ⟨(((id q1).1.far (by dsimp only; omega) _).far (by dsimp only; omega) _), (((id q1).2.1.far (by dsimp only; omega) _).far (by dsimp only; omega) _), (((id q1).2.2.1.far (by dsimp only; omega) _).far (by dsimp only; omega) _), (((id q1).2.2.2.1.far (by dsimp only; omega) _).far (by dsimp only; omega) _), (((id q1).2.2.2.2.set (by dsimp only; omega) _).set (by dsimp only; omega) _)⟩
          replace HNa := Lib.hid (HNa.out.res HX.out (mc) (.slice adc nc cc))
          replace HNb := Lib.hid (HNb.out.res HX.out (mc) (.slice adc nc cc))
          replace HNc := Lib.hid (HNc.out.res HX.out (mc) (.slice adc nc cc))
          replace HX := Lib.hid (HX.out.set2 (.bool mc) (.slice adc nc cc))
          clear hK K q1 k0 k1 f0 f1
          have q1 := q2
          clear q2
          try simp only [Act.put, x2, x3, x4, x5, x6, x7]
          refine wpAnyH_done (by kernel_rfl) ?_ _
          go_wp2_with fail
          go_meet
          case rel => exact ⟨_, _, _, _, _, rfl, hgeHX, HX.out, HNc.out, id q1⟩
      · rw [if_pos (by rfl)]
        go_simp
        refine hK.out _ _ ?_ (fun q2 => ?_)
        · exact ⟨(id q1).1.below (bl_one _ _), (id q1).2.1.below (bl_one _ _), (id q1).2.2.1.below (bl_one _ _), (id q1).2.2.2.1.below (bl_one _ _), (id q1).2.2.2.2.below (bl_one _ _)⟩
        replace HNa := Lib.hid (HNa.out.below (al_of (id q2).2.2.2.2 (bl_one _ _)))
        have hgeHX := (id q1).2.2.2.2.sz
        have HX := Lib.hid ((id q1).2.2.2.2.var2 (.bool false) (.slice none 0 0) 42)
        clear hK K q1
        have q1 := q2
        clear q2
        try simp only [Act.put, x2, x3, x4, x5, x6, x7]
        revert HNa
        revert HX
        revert q1
        generalize World.alloc _ _ = W2
        intro q1 HX HNa
        refine wpAnyH_ready (rs := [7]) (by kernel_rfl) (by simp) ?_
        refine (AllReadyH.cons rfl (fun K hK => ?_) AllReadyH.nil)
        rw [if_pos (by rfl)]
        go_simp
        go_at_call 62
        (with_reducible refine (T2.out _).mono ?_); rintro e w1 ⟨vb, rfl, hNb, hb1⟩
        obtain ⟨mb, adb, nb, cb, rfl⟩ := hNb.shape
        have HNb := Lib.hid hNb
        clear hNb
        go_wp2_with fail
        refine hK.out _ _ ?_ (fun q2 => ?_)
        · exact ⟨(id q1).1.below hb1, (id q1).2.1.below hb1, (id q1).2.2.1.below hb1, (id q1).2.2.2.1.below hb1, (id q1).2.2.2.2.below hb1⟩
        replace HNa := Lib.hid (HNa.out.below hb1)
        replace HX := Lib.hid (HX.out.below hb1)
        clear hK K q1 hb1
        have q1 := q2
        clear q2
        try simp only [Act.put, x2, x3, x4, x5, x6, x7]
        refine wpAnyH_ready (rs := [8]) (by kernel_rfl) (by simp) ?_
        refine (AllReadyH.cons rfl (fun K hK => ?_) AllReadyH.nil)
        rw [if_pos (by rfl)]
        go_simp
        go_at_call 61
        (with_reducible refine (minus_n _ _ t1 t2 G1.out G2.out _ HNa.out HNb.out).mono ?_); rintro e w1 ⟨vc, rfl, hNc, hb1⟩
        obtain ⟨mc, adc, nc, cc, rfl⟩ := hNc.shape
        have HNc := Lib.hid hNc
        clear hNc
        go_wp2_with fail
        refine hK.out _ _ ?_ (fun q2 => ?_)
        · exact ⟨(id q1).1.below hb1, (id q1).2.1.below hb1, (id q1).2.2.1.below hb1, (id q1).2.2.2.1.below hb1, (id q1).2.2.2.2.below hb1⟩
        replace HNa := Lib.hid (HNa.out.below hb1)
        replace HX := Lib.hid (HX.out.below hb1)
        replace HNb := Lib.hid (HNb.out.below hb1)
        clear hK K q1 hb1
        have q1 := q2
        clear q2
        try simp only [Act.put, x2, x3, x4, x5, x6, x7]
        refine wpAnyH_ready (rs := [10]) (by kernel_rfl) (by simp) ?_
        refine (AllReadyH.cons rfl (fun K hK => ?_) AllReadyH.nil)
        rw [if_pos (by rfl)]
        obtain ⟨k0, k1⟩ := HX.out.two
        obtain ⟨f0, f1⟩ := HX.out.free2
        go_simp
        refine hK.out _ _ ?_ (fun q2 => ?_)
        · exact ⟨(((id q1).1.far (by dsimp only; omega) _).far (by dsimp only; omega) _), (((id q1).2.1.far (by dsimp only; omega) _).far (by dsimp only; omega) _), (((id q1).2.2.1.far (by dsimp only; omega) _).far (by dsimp only; omega) _), (((id q1).2.2.2.1.far (by dsimp only; omega) _).far (by dsimp only; omega) _), (((id q1).2.2.2.2.set (by dsimp only; omega) _).set (by dsimp only; omega) _)⟩
        replace HNa := Lib.hid (HNa.out.res HX.out (mc) (.slice adc nc cc))
        replace HNb := Lib.hid (HNb.out.res HX.out (mc) (.slice adc nc cc))
        replace HNc := Lib.hid (HNc.out.res HX.out (mc) (.slice adc nc cc))
        replace HX := Lib.hid (HX.out.set2 (.bool mc) (.slice adc nc cc))
        clear hK K q1 k0 k1 f0 f1
        have q1 := q2
        clear q2
        try simp only [Act.put, x2, x3, x4, x5, x6, x7]
        refine wpAnyH_done (by kernel_rfl) ?_ _
        go_wp2_with fail
        go_meet
        case rel => exact ⟨_, _, _, _, _, rfl, hgeHX, HX.out, HNc.out, id q1⟩
    · rw [if_pos (by rfl)]
      go_simp
      refine hK.out _ _ ?_ (fun q2 => ?_)
      · exact ⟨(id q1).1.below (bl_one _ _), (id q1).2.1.below (bl_one _ _), (id q1).2.2.1.below (bl_one _ _), (id q1).2.2.2.1.below (bl_one _ _), (id q1).2.2.2.2.below (bl_one _ _)⟩
      have hgeHX := (id q1).2.2.2.2.sz
      have HX := Lib.hid ((id q1).2.2.2.2.var2 (.bool false) (.slice none 0 0) 42)
      clear hK K q1
      have q1 := q2
      clear q2
      try simp only [Act.put, x2, x3, x4, x5, x6, x7]
      revert HX
      revert q1
      generalize World.alloc _ _ = W2
      intro q1 HX
      refine wpAnyH_ready (rs := [3]) (by kernel_rfl) (by simp) ?_
      refine (AllReadyH.cons rfl (fun K hK => ?_) AllReadyH.nil)
      rw [if_pos (by rfl)]
      go_simp
      go_at_call 62
      (with_reducible refine (T1.out _).mono ?_); rintro e w1 ⟨va, rfl, hNa, hb1⟩
      obtain ⟨ma, ada, na, ca, rfl⟩ := hNa.shape
      have HNa := Lib.hid hNa
      clear hNa
      go_wp2_with fail
      refine hK.out _ _ ?_ (fun q2 => ?_)
      · exact ⟨(id q1).1.below hb1, (id q1).2.1.below hb1, (id q1).2.2.1.below hb1, (id q1).2.2.2.1.below hb1, (id q1).2.2.2.2.below hb1⟩
      replace HX := Lib.hid (HX.out.below hb1)
      clear hK K q1 hb1
      have q1 := q2
      clear q2
      try simp only [Act.put, x2, x3, x4, x5, x6, x7]
      refine wpAnyH_ready (rs := [7]) (by kernel_rfl) (by simp) ?_
      refine (AllReadyH.cons rfl (fun K hK => ?_) AllReadyH.nil)
      rw [if_pos (by rfl)]
      go_simp
      go_at_call 62
      (with_reducible refine (T2.out _).mono ?_); rintro e w1 ⟨vb, rfl, hNb, hb1⟩
      obtain ⟨mb, adb, nb, cb, rfl⟩ := hNb.shape
      have HNb := Lib.hid hNb
      clear hNb
      go_wp2_with fail
      refine hK.out _ _ ?_ (fun q2 => ?_)
      · exact ⟨(id q1).1.below hb1, (id q1).2.1.below hb1, (id q1).2.2.1.below hb1, (id q1).2.2.2.1.below hb1, (id q1).2.2.2.2.below hb1⟩
      replace HX := Lib.hid (HX.out.below hb1)
      replace HNa := Lib.hid (HNa.out.below hb1)
      clear hK K q1 hb1
      have q1 := q2
      clear q2
      try simp only [Act.put, x2, x3, x4, x5, x6, x7]
      refine wpAnyH_ready (rs := [8]) (by kernel_rfl) (by simp) ?_
      refine (AllReadyH.cons rfl (fun K hK => ?_) AllReadyH.nil)
      rw [if_pos (by rfl)]
      go_simp
      go_at_call 61
      (with_reducible refine (minus_n _ _ t1 t2 G1.out G2.out _ HNa.out HNb.out).mono ?_); rintro e w1 ⟨vc, rfl, hNc, hb1⟩
      obtain ⟨mc, adc, nc, cc, rfl⟩ := hNc.shape
      have HNc := Lib.hid hNc
      clear hNc
      go_wp2_with fail
      refine hK.out _ _ ?_ (fun q2 => ?_)
      · exact ⟨(id q1).1.below hb1, (id q1).2.1.below hb1, (id q1).2.2.1.below hb1, (id q1).2.2.2.1.below hb1, (id q1).2.2.2.2.below hb1⟩
      replace HX := Lib.hid (HX.out.below hb1)
      replace HNa := Lib.hid (HNa.out.below hb1)
      replace HNb := Lib.hid (HNb.out.below hb1)
      clear hK K q1 hb1
      have q1 := q2
      clear q2
      try simp only [Act.put, x2, x3, x4, x5, x6, x7]
      refine wpAnyH_ready (rs := [10]) (by kernel_rfl) (by simp) ?_
      refine (AllReadyH.cons rfl (fun K hK => ?_) AllReadyH.nil)
      rw [if_pos (by rfl)]
      obtain ⟨k0, k1⟩ := HX.out.two
      obtain ⟨f0, f1⟩ := HX.out.free2
      go_simp
      refine hK.out _ _ ?_ (fun q2 => ?_)
      · exact ⟨(((id q1).1.far (by dsimp only; omega) _).far (by dsimp only; omega) _), (((id q1).2.1.far (by dsimp only; omega) _).far (by dsimp only; omega) _), (((id q1).2.2.1.far (by dsimp only; omega) _).far (by dsimp only; omega) _), (((id q1).2.2.2.1.far (by dsimp only; omega) _).far (by dsimp only; omega) _), (((id q1).2.2.2.2.set (by dsimp only; omega) _).set (by dsimp only; omega) _)⟩
      replace HNa := Lib.hid (HNa.out.res HX.out (mc) (.slice adc nc cc))
      replace HNb := Lib.hid (HNb.out.res HX.out (mc) (.slice adc nc cc))
      replace HNc := Lib.hid (HNc.out.res HX.out (mc) (.slice adc nc cc))
      replace HX := Lib.hid (HX.out.set2 (.bool mc) (.slice adc nc cc))
      clear hK K q1 k0 k1 f0 f1
      have q1 := q2
      clear q2
      try simp only [Act.put, x2, x3, x4, x5, x6, x7]
      refine wpAnyH_done (by kernel_rfl) ?_ _
      go_wp2_with fail
      go_meet
      case rel => exact ⟨_, _, _, _, _, rfl, hgeHX, HX.out, HNc.out, id q1⟩
  case rest =>
  obtain ⟨g9, m9, ad9, n9, c9, rfl, ge9, vn, hN, hS0⟩ := hcut
  clear HS0
  have HS0 : Hid ((fun W => Var W (w.heap.size) [.int .i64 a.x, .int .i64 a.y] ∧ Var W (w.heap.size + 1) [.int .i64 b.x, .int .i64 b.y] ∧ Var W (w.heap.size + 1 + 1) [.int .i64 c.x, .int .i64 c.y] ∧ Var W (w.heap.size + 1 + 1 + 1) [.int .i64 d.x, .int .i64 d.y] ∧ Var W (g9) [.bool m9, .slice ad9 n9 c9] ∧ NumIs (.agg #[.bool m9, .slice ad9 n9 c9]) (t1 - t2) W ∧ Grew w 4 W) _) := ⟨hS0.1, hS0.2.1, hS0.2.2.1, hS0.2.2.2.1, vn, hN, hS0.2.2.2.2⟩
  clear hS0 vn hN
  go_upto_region 4 with (fail)
  go_cut [9] (fun pv W => pv = .pointer (some ⟨g9, 0, none⟩) ∧ ∃ (m9 : Bool) (ad9 : Option Addr) (n9 c9 : Nat), (fun W => Var W (w.heap.size) [.int .i64 a.x, .int .i64 a.y] ∧ Var W (w.heap.size + 1) [.int .i64 b.x, .int .i64 b.y] ∧ Var W (w.heap.size + 1 + 1) [.int .i64 c.x, .int .i64 c.y] ∧ Var W (w.heap.size + 1 + 1 + 1) [.int .i64 d.x, .int .i64 d.y] ∧ Var W (g9) [.bool m9, .slice ad9 n9 c9] ∧ NumIs (.agg #[.bool m9, .slice ad9 n9 c9]) (t1 - t2 + t3) W ∧ Grew w 4 W) W)
  case first =>
    clear HQ HV CO
    have HS5 : Hid ((fun W => Var W (w.heap.size) [.int .i64 a.x, .int .i64 a.y] ∧ Var W (w.heap.size + 1) [.int .i64 b.x, .int .i64 b.y] ∧ Var W (w.heap.size + 1 + 1) [.int .i64 c.x, .int .i64 c.y] ∧ Var W (w.heap.size + 1 + 1 + 1) [.int .i64 d.x, .int .i64 d.y] ∧ Grew w 4 W) _) := ⟨HS0.out.1, HS0.out.2.1, HS0.out.2.2.1, HS0.out.2.2.2.1, HS0.out.2.2.2.2.2.2⟩
    have HU := Lib.hid HS0.out.2.2.2.2.1
    have HNU := Lib.hid HS0.out.2.2.2.2.2.1
    clear HS0
    refine wp_region_held_drew (S := fun W => Var W (w.heap.size) [.int .i64 a.x, .int .i64 a.y] ∧ Var W (w.heap.size + 1) [.int .i64 b.x, .int .i64 b.y] ∧ Var W (w.heap.size + 1 + 1) [.int .i64 c.x, .int .i64 c.y] ∧ Var W (w.heap.size + 1 + 1 + 1) [.int .i64 d.x, .int .i64 d.y] ∧ Grew w 4 W) (by kernel_rfl) ?_ (fun q1 => ?_)
    · exact ⟨HS5.out.1.below (bel_drew _), HS5.out.2.1.below (bel_drew _), HS5.out.2.2.1.below (bel_drew _), HS5.out.2.2.2.1.below (bel_drew _), HS5.out.2.2.2.2.below (bel_drew _)⟩
    replace HU := Lib.hid (HU.out.below (bel_drew _))
    replace HNU := Lib.hid (HNU.out.below (bel_drew _))
    revert HU
    revert HNU
    revert q1
    generalize World.drew _ = W1
    intro q1 HNU HU
    refine tk (i := 1) (v := ?_) rfl (Or.inl ⟨by rfl, ?_⟩) ?_
    rotate_left
    · intro Wq hSw
      obtain ⟨k0, k1⟩ := (id hSw).1.two
      clear hSw
      go_simp
      all_goals (with_reducible rfl)
    try simp only [Act.put, x2, x3, x4, x5, x6, x7]
    refine tk (i := 2) (v := ?_) rfl (Or.inl ⟨by rfl, ?_⟩) ?_
    rotate_left
    · intro Wq hSw
      obtain ⟨k0, k1⟩ := (id hSw).2.2.1.two
      clear hSw
      go_simp
      all_goals (with_reducible rfl)
    try simp only [Act.put, x2, x3, x4, x5, x6, x7]
    refine tk (i := 3) (v := ?_) rfl (Or.inl ⟨by rfl, ?_⟩) ?_
    rotate_left
    · intro Wq hSw
      obtain ⟨k0, k1⟩ := (id hSw).2.2.2.1.two
      clear hSw
      go_simp
      all_goals (with_reducible rfl)
    try simp only [Act.put, x2, x3, x4, x5, x6, x7]
    refine wpAnyH_ready (rs := [0, 4]) (by kernel_rfl) (by simp) ?_
    refine (AllReadyH.cons rfl (fun K hK => ?_) (AllReadyH.cons rfl (fun K hK => ?_) AllReadyH.nil))
    · rw [if_pos (by rfl)]
      obtain ⟨k0, k1⟩ := HU.out.two
      go_simp
      refine hK.out _ _ ?_ (fun q2 => ?_)
      · exact q1
      clear hK K q1 k0 k1
      have q1 := q2
      clear q2
      try simp only [Act.put, x2, x3, x4, x5, x6, x7]
      refine wpAnyH_ready (rs := [4]) (by kernel_rfl) (by simp) ?_
      refine (AllReadyH.cons rfl (fun K hK => ?_) AllReadyH.nil)
      rw [if_pos (by rfl)]
      go_simp
      go_at_call 62
      (with_reducible refine (T3.out _).mono ?_); rintro e w1 ⟨va, rfl, hNa, hb1⟩
      obtain ⟨ma, ada, na, ca, rfl⟩ := hNa.shape
      have HNa := Lib.hid hNa
      clear hNa
      go_wp2_with fail
      refine hK.out _ _ ?_ (fun q2 => ?_)
      · exact ⟨(id q1).1.below hb1, (id q1).2.1.below hb1, (id q1).2.2.1.below hb1, (id q1).2.2.2.1.below hb1, (id q1).2.2.2.2.below hb1⟩
      replace HU := Lib.hid (HU.out.below hb1)
      replace HNU := Lib.hid (HNU.out.below hb1)
      clear hK K q1 hb1
      have q1 := q2
      clear q2
      try simp only [Act.put, x2, x3, x4, x5, x6, x7]
      refine wpAnyH_ready (rs := [5]) (by kernel_rfl) (by simp) ?_
      refine (AllReadyH.cons rfl (fun K hK => ?_) AllReadyH.nil)
      rw [if_pos (by rfl)]
      go_simp
      go_at_call 38
      (with_reducible refine (plus_c _ _ (t1 - t2) t3 _ HNU.out HNa.out G12.out G3.out).mono ?_); rintro e w1 ⟨vc, rfl, hNc, hb1⟩
      obtain ⟨mc, adc, nc, cc, rfl⟩ := hNc.shape
      have HNc := Lib.hid hNc
      clear hNc
      go_wp2_with fail
      refine hK.out _ _ ?_ (fun q2 => ?_)
      · exact ⟨(id q1).1.below hb1, (id q1).2.1.below hb1, (id q1).2.2.1.below hb1, (id q1).2.2.2.1.below hb1, (id q1).2.2.2.2.below hb1⟩
      replace HU := Lib.hid (HU.out.below hb1)
      replace HNU := Lib.hid (HNU.out.below hb1)
      replace HNa := Lib.hid (HNa.out.below hb1)
      clear hK K q1 hb1
      have q1 := q2
      clear q2
      try simp only [Act.put, x2, x3, x4, x5, x6, x7]
      refine wpAnyH_ready (rs := [6]) (by kernel_rfl) (by simp) ?_
      refine (AllReadyH.cons rfl (fun K hK => ?_) AllReadyH.nil)
      rw [if_pos (by rfl)]
      obtain ⟨k0, k1⟩ := HU.out.two
      obtain ⟨f0, f1⟩ := HU.out.free2
      go_simp
      refine hK.out _ _ ?_ (fun q2 => ?_)
      · exact ⟨(((id q1).1.far (by dsimp only; omega) _).far (by dsimp only; omega) _), (((id q1).2.1.far (by dsimp only; omega) _).far (by dsimp only; omega) _), (((id q1).2.2.1.far (by dsimp only; omega) _).far (by dsimp only; omega) _), (((id q1).2.2.2.1.far (by dsimp only; omega) _).far (by dsimp only; omega) _), (((id q1).2.2.2.2.set (by dsimp only; omega) _).set (by dsimp only; omega) _)⟩
      replace HNU := Lib.hid (HNU.out.res HU.out (mc) (.slice adc nc cc))
      replace HNa := Lib.hid (HNa.out.res HU.out (mc) (.slice adc nc cc))
      replace HNc := Lib.hid (HNc.out.res HU.out (mc) (.slice adc nc cc))
      replace HU := Lib.hid (HU.out.set2 (.bool mc) (.slice adc nc cc))
      clear hK K q1 k0 k1 f0 f1
      have q1 := q2
      clear q2
      try simp only [Act.put, x2, x3, x4, x5, x6, x7]
      refine wpAnyH_done (by kernel_rfl) ?_ _
      go_wp2_with fail
      go_meet
      case rel => exact ⟨rfl, _, _, _, _, (id q1).1, (id q1).2.1, (id q1).2.2.1, (id q1).2.2.2.1, HU.out, HNc.out, (id q1).2.2.2.2⟩
    · rw [if_pos (by rfl)]
      go_simp
      go_at_call 62
      (with_reducible refine (T3.out _).mono ?_); rintro e w1 ⟨va, rfl, hNa, hb1⟩
      obtain ⟨ma, ada, na, ca, rfl⟩ := hNa.shape
      have HNa := Lib.hid hNa
      clear hNa
      go_wp2_with fail
      refine hK.out _ _ ?_ (fun q2 => ?_)
      · exact ⟨(id q1).1.below hb1, (id q1).2.1.below hb1, (id q1).2.2.1.below hb1, (id q1).2.2.2.1.below hb1, (id q1).2.2.2.2.below hb1⟩
      replace HU := Lib.hid (HU.out.below hb1)
      replace HNU := Lib.hid (HNU.out.below hb1)
      clear hK K q1 hb1
      have q1 := q2
      clear q2
      try simp only [Act.put, x2, x3, x4, x5, x6, x7]
      refine wpAnyH_ready (rs := [0]) (by kernel_rfl) (by simp) ?_
      refine (AllReadyH.cons rfl (fun K hK => ?_) AllReadyH.nil)
      rw [if_pos (by rfl)]
      obtain ⟨k0, k1⟩ := HU.out.two
      go_simp
      refine hK.out _ _ ?_ (fun q2 => ?_)
      · exact q1
      clear hK K q1 k0 k1
      have q1 := q2
      clear q2
      try simp only [Act.put, x2, x3, x4, x5, x6, x7]
      refine wpAnyH_ready (rs := [5]) (by kernel_rfl) (by simp) ?_
      refine (AllReadyH.cons rfl (fun K hK => ?_) AllReadyH.nil)
      rw [if_pos (by rfl)]
      go_simp
      go_at_call 38
      (with_reducible refine (plus_c _ _ (t1 - t2) t3 _ HNU.out HNa.out G12.out G3.out).mono ?_); rintro e w1 ⟨vc, rfl, hNc, hb1⟩
      obtain ⟨mc, adc, nc, cc, rfl⟩ := hNc.shape
      have HNc := Lib.hid hNc
      clear hNc
      go_wp2_with fail
      refine hK.out _ _ ?_ (fun q2 => ?_)
      · exact ⟨(id q1).1.below hb1, (id q1).2.1.below hb1, (id q1).2.2.1.below hb1, (id q1).2.2.2.1.below hb1, (id q1).2.2.2.2.below hb1⟩
      replace HU := Lib.hid (HU.out.below hb1)
      replace HNU := Lib.hid (HNU.out.below hb1)
      replace HNa := Lib.hid (HNa.out.below hb1)
      clear hK K q1 hb1
      have q1 := q2
      clear q2
      try simp only [Act.put, x2, x3, x4, x5, x6, x7]
      refine wpAnyH_ready (rs := [6]) (by kernel_rfl) (by simp) ?_
      refine (AllReadyH.cons rfl (fun K hK => ?_) AllReadyH.nil)
      rw [if_pos (by rfl)]
      obtain ⟨k0, k1⟩ := HU.out.two
      obtain ⟨f0, f1⟩ := HU.out.free2
      go_simp
      refine hK.out _ _ ?_ (fun q2 => ?_)
      · exact ⟨(((id q1).1.far (by dsimp only; omega) _).far (by dsimp only; omega) _), (((id q1).2.1.far (by dsimp only; omega) _).far (by dsimp only; omega) _), (((id q1).2.2.1.far (by dsimp only; omega) _).far (by dsimp only; omega) _), (((id q1).2.2.2.1.far (by dsimp only; omega) _).far (by dsimp only; omega) _), (((id q1).2.2.2.2.set (by dsimp only; omega) _).set (by dsimp only; omega) _)⟩
      replace HNU := Lib.hid (HNU.out.res HU.out (mc) (.slice adc nc cc))
      replace HNa := Lib.hid (HNa.out.res HU.out (mc) (.slice adc nc cc))
      replace HNc := Lib.hid (HNc.out.res HU.out (mc) (.slice adc nc cc))
      replace HU := Lib.hid (HU.out.set2 (.bool mc) (.slice adc nc cc))
      clear hK K q1 k0 k1 f0 f1
      have q1 := q2
      clear q2
      try simp only [Act.put, x2, x3, x4, x5, x6, x7]
      refine wpAnyH_done (by kernel_rfl) ?_ _
      go_wp2_with fail
      go_meet
      case rel => exact ⟨rfl, _, _, _, _, (id q1).1, (id q1).2.1, (id q1).2.2.1, (id q1).2.2.2.1, HU.out, HNc.out, (id q1).2.2.2.2⟩
  case rest =>
  obtain ⟨rfl, m9, ad9, n9, c9, hS0⟩ := hcut
  clear HS0
  have HS0 := Lib.hid hS0
  clear hS0
  go_upto_region 5 with (fail)
  go_cut [9] (fun pv W => pv = .pointer (some ⟨g9, 0, none⟩) ∧ ∃ (m9 : Bool) (ad9 : Option Addr) (n9 c9 : Nat), (fun W => Var W (w.heap.size) [.int .i64 a.x, .int .i64 a.y] ∧ Var W (w.heap.size + 1) [.int .i64 b.x, .int .i64 b.y] ∧ Var W (w.heap.size + 1 + 1) [.int .i64 c.x, .int .i64 c.y] ∧ Var W (w.heap.size + 1 + 1 + 1) [.int .i64 d.x, .int .i64 d.y] ∧ Var W (g9) [.bool m9, .slice ad9 n9 c9] ∧ NumIs (.agg #[.bool m9, .slice ad9 n9 c9]) (t1 - t2 + t3 - t4) W ∧ Grew w 4 W) W)
  case first =>
    clear HQ HV CO
    have HS5 : Hid ((fun W => Var W (w.heap.size) [.int .i64 a.x, .int .i64 a.y] ∧ Var W (w.heap.size + 1) [.int .i64 b.x, .int .i64 b.y] ∧ Var W (w.heap.size + 1 + 1) [.int .i64 c.x, .int .i64 c.y] ∧ Var W (w.heap.size + 1 + 1 + 1) [.int .i64 d.x, .int .i64 d.y] ∧ Grew w 4 W) _) := ⟨HS0.out.1, HS0.out.2.1, HS0.out.2.2.1, HS0.out.2.2.2.1, HS0.out.2.2.2.2.2.2⟩
    have HU := Lib.hid HS0.out.2.2.2.2.1
    have HNU := Lib.hid HS0.out.2.2.2.2.2.1
    clear HS0
    refine wp_region_held_drew (S := fun W => Var W (w.heap.size) [.int .i64 a.x, .int .i64 a.y] ∧ Var W (w.heap.size + 1) [.int .i64 b.x, .int .i64 b.y] ∧ Var W (w.heap.size + 1 + 1) [.int .i64 c.x, .int .i64 c.y] ∧ Var W (w.heap.size + 1 + 1 + 1) [.int .i64 d.x, .int .i64 d.y] ∧ Grew w 4 W) (by kernel_rfl) ?_ (fun q1 => ?_)
    · exact ⟨HS5.out.1.below (bel_drew _), HS5.out.2.1.below (bel_drew _), HS5.out.2.2.1.below (bel_drew _), HS5.out.2.2.2.1.below (bel_drew _), HS5.out.2.2.2.2.below (bel_drew _)⟩
    replace HU := Lib.hid (HU.out.below (bel_drew _))
    replace HNU := Lib.hid (HNU.out.below (bel_drew _))
    revert HU
    revert HNU
    revert q1
    generalize World.drew _ = W1
    intro q1 HNU HU
    refine tk (i := 1) (v := ?_) rfl (Or.inl ⟨by rfl, ?_⟩) ?_
    rotate_left
    · intro Wq hSw
      obtain ⟨k0, k1⟩ := (id hSw).2.1.two
      clear hSw
      go_simp
      all_goals (with_reducible rfl)
    try simp only [Act.put, x2, x3, x4, x5, x6, x7]
    refine tk (i := 2) (v := ?_) rfl (Or.inl ⟨by rfl, ?_⟩) ?_
    rotate_left
    · intro Wq hSw
      obtain ⟨k0, k1⟩ := (id hSw).2.2.1.two
      clear hSw
      go_simp
      all_goals (with_reducible rfl)
    try simp only [Act.put, x2, x3, x4, x5, x6, x7]
    refine tk (i := 3) (v := ?_) rfl (Or.inl ⟨by rfl, ?_⟩) ?_
    rotate_left
    · intro Wq hSw
      obtain ⟨k0, k1⟩ := (id hSw).2.2.2.1.two
      clear hSw
      go_simp
      all_goals (with_reducible rfl)
    try simp only [Act.put, x2, x3, x4, x5, x6, x7]
    refine wpAnyH_ready (rs := [0, 4]) (by kernel_rfl) (by simp) ?_
    refine (AllReadyH.cons rfl (fun K hK => ?_) (AllReadyH.cons rfl (fun K hK => ?_) AllReadyH.nil))
    · rw [if_pos (by rfl)]
      obtain ⟨k0, k1⟩ := HU.out.two
      go_simp
      refine hK.out _ _ ?_ (fun q2 => ?_)
      · exact q1
      clear hK K q1 k0 k1
      have q1 := q2
      clear q2
      try simp only [Act.put, x2, x3, x4, x5, x6, x7]
      refine wpAnyH_ready (rs := [4]) (by kernel_rfl) (by simp) ?_
      refine (AllReadyH.cons rfl (fun K hK => ?_) AllReadyH.nil)
      rw [if_pos (by rfl)]
      go_simp
      go_at_call 62
      (with_reducible refine (T4.out _).mono ?_); rintro e w1 ⟨va, rfl, hNa, hb1⟩
      obtain ⟨ma, ada, na, ca, rfl⟩ := hNa.shape
      have HNa := Lib.hid hNa
      clear hNa
      go_wp2_with fail
      refine hK.out _ _ ?_ (fun q2 => ?_)
      · exact ⟨(id q1).1.below hb1, (id q1).2.1.below hb1, (id q1).2.2.1.below hb1, (id q1).2.2.2.1.below hb1, (id q1).2.2.2.2.below hb1⟩
      replace HU := Lib.hid (HU.out.below hb1)
      replace HNU := Lib.hid (HNU.out.below hb1)
      clear hK K q1 hb1
      have q1 := q2
      clear q2
      try simp only [Act.put, x2, x3, x4, x5, x6, x7]
      refine wpAnyH_ready (rs := [5]) (by kernel_rfl) (by simp) ?_
      refine (AllReadyH.cons rfl (fun K hK => ?_) AllReadyH.nil)
      rw [if_pos (by rfl)]
      go_simp
      go_at_call 61
      (with_reducible refine (minus_n _ _ (t1 - t2 + t3) t4 G123.out G4.out _ HNU.out HNa.out).mono ?_); rintro e w1 ⟨vc, rfl, hNc, hb1⟩
      obtain ⟨mc, adc, nc, cc, rfl⟩ := hNc.shape
      have HNc := Lib.hid hNc
      clear hNc
      go_wp2_with fail
      refine hK.out _ _ ?_ (fun q2 => ?_)
      · exact ⟨(id q1).1.below hb1, (id q1).2.1.below hb1, (id q1).2.2.1.below hb1, (id q1).2.2.2.1.below hb1, (id q1).2.2.2.2.below hb1⟩
      replace HU := Lib.hid (HU.out.below hb1)
      replace HNU := Lib.hid (HNU.out.below hb1)
      replace HNa := Lib.hid (HNa.out.below hb1)
      clear hK K q1 hb1
      have q1 := q2
      clear q2
      try simp only [Act.put, x2, x3, x4, x5, x6, x7]
      refine wpAnyH_ready (rs := [6]) (by kernel_rfl) (by simp) ?_
      refine (AllReadyH.cons rfl (fun K hK => ?_) AllReadyH.nil)
      rw [if_pos (by rfl)]
      obtain ⟨k0, k1⟩ := HU.out.two
      obtain ⟨f0, f1⟩ := HU.out.free2
      go_simp
      refine hK.out _ _ ?_ (fun q2 => ?_)
      · exact ⟨(((id q1).1.far (by dsimp only; omega) _).far (by dsimp only; omega) _), (((id q1).2.1.far (by dsimp only; omega) _).far (by dsimp only; omega) _), (((id q1).2.2.1.far (by dsimp only; omega) _).far (by dsimp only; omega) _), (((id q1).2.2.2.1.far (by dsimp only; omega) _).far (by dsimp only; omega) _), (((id q1).2.2.2.2.set (by dsimp only; omega) _).set (by dsimp only; omega) _)⟩
      replace HNU := Lib.hid (HNU.out.res HU.out (mc) (.slice adc nc cc))
      replace HNa := Lib.hid (HNa.out.res HU.out (mc) (.slice adc nc cc))
      replace HNc := Lib.hid (HNc.out.res HU.out (mc) (.slice adc nc cc))
      replace HU := Lib.hid (HU.out.set2 (.bool mc) (.slice adc nc cc))
      clear hK K q1 k0 k1 f0 f1
      have q1 := q2
      clear q2
      try simp only [Act.put, x2, x3, x4, x5, x6, x7]
      refine wpAnyH_done (by kernel_rfl) ?_ _
      go_wp2_with fail
      go_meet
      case rel => exact ⟨rfl, _, _, _, _, (id q1).1, (id q1).2.1, (id q1).2.2.1, (id q1).2.2.2.1, HU.out, HNc.out, (id q1).2.2.2.2⟩
    · rw [if_pos (by rfl)]
      go_simp
      go_at_call 62
      (with_reducible refine (T4.out _).mono ?_); rintro e w1 ⟨va, rfl, hNa, hb1⟩
      obtain ⟨ma, ada, na, ca, rfl⟩ := hNa.shape
      have HNa := Lib.hid hNa
      clear hNa
      go_wp2_with fail
      refine hK.out _ _ ?_ (fun q2 => ?_)
      · exact ⟨(id q1).1.below hb1, (id q1).2.1.below hb1, (id q1).2.2.1.below hb1, (id q1).2.2.2.1.below hb1, (id q1).2.2.2.2.below hb1⟩
      replace HU := Lib.hid (HU.out.below hb1)
      replace HNU := Lib.hid (HNU.out.below hb1)
      clear hK K q1 hb1
      have q1 := q2
      clear q2
      try simp only [Act.put, x2, x3, x4, x5, x6, x7]
      refine wpAnyH_ready (rs := [0]) (by kernel_rfl) (by simp) ?_
      refine (AllReadyH.cons rfl (fun K hK => ?_) AllReadyH.nil)
      rw [if_pos (by rfl)]
      obtain ⟨k0, k1⟩ := HU.out.two
      go_simp
      refine hK.out _ _ ?_ (fun q2 => ?_)
      · exact q1
      clear hK K q1 k0 k1
      have q1 := q2
      clear q2
      try simp only [Act.put, x2, x3, x4, x5, x6, x7]
      refine wpAnyH_ready (rs := [5]) (by kernel_rfl) (by simp) ?_
      refine (AllReadyH.cons rfl (fun K hK => ?_) AllReadyH.nil)
      rw [if_pos (by rfl)]
      go_simp
      go_at_call 61
      (with_reducible refine (minus_n _ _ (t1 - t2 + t3) t4 G123.out G4.out _ HNU.out HNa.out).mono ?_); rintro e w1 ⟨vc, rfl, hNc, hb1⟩
      obtain ⟨mc, adc, nc, cc, rfl⟩ := hNc.shape
      have HNc := Lib.hid hNc
      clear hNc
      go_wp2_with fail
      refine hK.out _ _ ?_ (fun q2 => ?_)
      · exact ⟨(id q1).1.below hb1, (id q1).2.1.below hb1, (id q1).2.2.1.below hb1, (id q1).2.2.2.1.below hb1, (id q1).2.2.2.2.below hb1⟩
      replace HU := Lib.hid (HU.out.below hb1)
      replace HNU := Lib.hid (HNU.out.below hb1)
      replace HNa := Lib.hid (HNa.out.below hb1)
      clear hK K q1 hb1
      have q1 := q2
      clear q2
      try simp only [Act.put, x2, x3, x4, x5, x6, x7]
      refine wpAnyH_ready (rs := [6]) (by kernel_rfl) (by simp) ?_
      refine (AllReadyH.cons rfl (fun K hK => ?_) AllReadyH.nil)
      rw [if_pos (by rfl)]
      obtain ⟨k0, k1⟩ := HU.out.two
      obtain ⟨f0, f1⟩ := HU.out.free2
      go_simp
      refine hK.out _ _ ?_ (fun q2 => ?_)
      · exact ⟨(((id q1).1.far (by dsimp only; omega) _).far (by dsimp only; omega) _), (((id q1).2.1.far (by dsimp only; omega) _).far (by dsimp only; omega) _), (((id q1).2.2.1.far (by dsimp only; omega) _).far (by dsimp only; omega) _), (((id q1).2.2.2.1.far (by dsimp only; omega) _).far (by dsimp only; omega) _), (((id q1).2.2.2.2.set (by dsimp only; omega) _).set (by dsimp only; omega) _)⟩
      replace HNU := Lib.hid (HNU.out.res HU.out (mc) (.slice adc nc cc))
      replace HNa := Lib.hid (HNa.out.res HU.out (mc) (.slice adc nc cc))
      replace HNc := Lib.hid (HNc.out.res HU.out (mc) (.slice adc nc cc))
      replace HU := Lib.hid (HU.out.set2 (.bool mc) (.slice adc nc cc))
      clear hK K q1 k0 k1 f0 f1
      have q1 := q2
      clear q2
      try simp only [Act.put, x2, x3, x4, x5, x6, x7]
      refine wpAnyH_done (by kernel_rfl) ?_ _
      go_wp2_with fail
      go_meet
      case rel => exact ⟨rfl, _, _, _, _, (id q1).1, (id q1).2.1, (id q1).2.2.1, (id q1).2.2.2.1, HU.out, HNc.out, (id q1).2.2.2.2⟩
  case rest =>
  obtain ⟨rfl, m9, ad9, n9, c9, hS0⟩ := hcut
  clear HS0
  have HS0 := Lib.hid hS0
  clear hS0
  clear T1 T2 T3 T4 G1 G2 G3 G4 G12 G123
  go_upto_region 6 with (fail)
  obtain ⟨s, hs⟩ : ∃ s, sg3 (t1 - t2 + t3 - t4) = s := ⟨_, rfl⟩
  have hsv : s = -1 ∨ s = 0 ∨ s = 1 := by rw [← hs]; rcases sg3_vals (t1 - t2 + t3 - t4) with ⟨-, e⟩ | ⟨-, e⟩ | ⟨-, e⟩ <;> omega
  have hov := HV.out
  have hb : -1 ≤ s * oz ∧ s * oz ≤ 1 := by rcases hsv with rfl | rfl | rfl <;> rcases hov with rfl | rfl | rfl <;> decide
  have HM : Hid (circZ a b c d = s * oz) := by unfold Hid; rw [HQ.out, hs]
  have w1 : IntKind.i64.wrap (s * oz) = s * oz := IntWalk.i64_in _ (by omega)
  have w2 : wrap64 (s * oz) = s * oz := by unfold wrap64; omega
  have HS2 := Lib.hid hs
  clear HQ HV hsv hov hb hs
  refine wp_region_held_drew (S := fun W => Var W (w.heap.size) [.int .i64 a.x, .int .i64 a.y] ∧ Var W (w.heap.size + 1) [.int .i64 b.x, .int .i64 b.y] ∧ Var W (w.heap.size + 1 + 1) [.int .i64 c.x, .int .i64 c.y] ∧ Var W (w.heap.size + 1 + 1 + 1) [.int .i64 d.x, .int .i64 d.y] ∧ Var W (g9) [.bool m9, .slice ad9 n9 c9] ∧ NumIs (.agg #[.bool m9, .slice ad9 n9 c9]) (t1 - t2 + t3 - t4) W ∧ Grew w 4 W) (by kernel_rfl) ?_ (fun q1 => ?_)
  · exact ⟨HS0.out.1.below (bel_drew _), HS0.out.2.1.below (bel_drew _), HS0.out.2.2.1.below (bel_drew _), HS0.out.2.2.2.1.below (bel_drew _), HS0.out.2.2.2.2.1.below (bel_drew _), HS0.out.2.2.2.2.2.1.below (bel_drew _), HS0.out.2.2.2.2.2.2.below (bel_drew _)⟩
  revert q1
  generalize World.drew _ = W1
  intro q1 
  refine tk (i := 0) (v := ?_) rfl (Or.inl ⟨by rfl, ?_⟩) ?_
  rotate_left
  · intro Wq hSw
    obtain ⟨k0, k1⟩ := (id hSw).2.2.2.2.1.two
    clear hSw
    go_simp
    all_goals (with_reducible rfl)
  try simp only [Act.put, x2, x4, x5, x6, x7]
  refine tk (i := 2) (v := ?_) rfl (Or.inl ⟨by rfl, ?_⟩) ?_
  rotate_left
  · intro Wq hSw
    obtain ⟨k0, k1⟩ := (id hSw).1.two
    clear hSw
    go_simp
    all_goals (with_reducible rfl)
  try simp only [Act.put, x2, x3, x4, x5, x6, x7]
  refine tk (i := 3) (v := ?_) rfl (Or.inl ⟨by rfl, ?_⟩) ?_
  rotate_left
  · intro Wq hSw
    obtain ⟨k0, k1⟩ := (id hSw).2.1.two
    clear hSw
    go_simp
    all_goals (with_reducible rfl)
  try simp only [Act.put, x2, x3, x4, x5, x6, x7]
  refine tk (i := 4) (v := ?_) rfl (Or.inl ⟨by rfl, ?_⟩) ?_
  rotate_left
  · intro Wq hSw
    obtain ⟨k0, k1⟩ := (id hSw).2.2.1.two
    clear hSw
    go_simp
    all_goals (with_reducible rfl)
  try simp only [Act.put, x2, x3, x4, x5, x6, x7]
  refine wpAnyH_ready (rs := [1]) (by kernel_rfl) (by simp) ?_
  refine (AllReadyH.cons rfl (fun K hK => ?_) AllReadyH.nil)
  rw [if_pos (by rfl)]
  go_simp
  go_at_call 58
  (with_reducible refine (sign_num _ _ _ (id q1).2.2.2.2.2.1).mono ?_)
  rintro e w1_ ⟨rfl, hb1⟩
  have hsg : sgZ (t1 - t2 + t3 - t4) = s := HS2.out
  rw [hsg]
  clear hsg
  go_wp2_with fail
  refine hK.out _ _ ?_ (fun q2 => ?_)
  · exact ⟨(id q1).1.below hb1, (id q1).2.1.below hb1, (id q1).2.2.1.below hb1, (id q1).2.2.2.1.below hb1, (id q1).2.2.2.2.1.below hb1, (id q1).2.2.2.2.2.1.below hb1, (id q1).2.2.2.2.2.2.below hb1⟩
  clear hK K q1 hb1
  have q1 := q2
  clear q2
  try simp only [Act.put, x2, x3, x4, x5, x6, x7]
  refine wpAnyH_ready (rs := [5]) (by kernel_rfl) (by simp) ?_
  refine (AllReadyH.cons rfl (fun K hK => ?_) AllReadyH.nil)
  rw [if_pos (by rfl)]
  go_simp
  go_at_call 20
  (with_reducible refine (CO.out _).mono ?_)
  rintro e w1_ ⟨rfl, hb1⟩
  go_wp2_with fail
  refine hK.out _ _ ?_ (fun q2 => ?_)
  · exact ⟨(id q1).1.below hb1, (id q1).2.1.below hb1, (id q1).2.2.1.below hb1, (id q1).2.2.2.1.below hb1, (id q1).2.2.2.2.1.below hb1, (id q1).2.2.2.2.2.1.below hb1, (id q1).2.2.2.2.2.2.below hb1⟩
  clear hK K q1 hb1
  have q1 := q2
  clear q2
  try simp only [Act.put, x2, x3, x4, x5, x6, x7]
  refine tk (i := 6) (v := ?_) rfl (Or.inl ⟨by rfl, ?_⟩) ?_
  rotate_left
  · intro Wq hSw
    clear hSw
    go_simp
    all_goals (with_reducible rfl)
  try simp only [Act.put, x2, x3, x4, x5, x6, x7]
  refine tk (i := 7) (v := ?_) rfl (Or.inl ⟨by rfl, ?_⟩) ?_
  rotate_left
  · intro Wq hSw
    clear hSw
    go_simp
    all_goals (with_reducible rfl)
  try simp only [Act.put, x2, x3, x4, x5, x6, x7]
  refine wpAnyH_done (by kernel_rfl) ?_ _
  go_wp2_with fail
  go_ret
  exact ⟨by rw [HM.out]; rfl, (id q1).2.2.2.2.2.2.hb⟩
end Go.Proofs.Ytojfggnimmaemaa

/-
  The walk of the law PredCircles.
-/
namespace Go.Proofs.Ytojfggnimmaemaa
open Go.RowKit

set_option maxHeartbeats 8000000 in
set_option maxRecDepth 100000 in
theorem pcircles_l (a b c d : Pt) (w : World) : Calls Try.prog 4 #[.agg #[.int .i64 a.x, .int .i64 a.y], .agg #[.int .i64 b.x, .int .i64 b.y], .agg #[.int .i64 c.x, .int .i64 c.y], .agg #[.int .i64 d.x, .int .i64 d.y]] w (Gives (.bool true) w) := by
  have C1 := Lib.hid (fun W => inCircle_l a b c d W)
  have C2 := Lib.hid (fun W => refCirc_l a b c d W)
  have C3 := Lib.hid (fun W => inCircle_at b c a d _ (circ_rot a b c d) W)
  have C4 := Lib.hid (fun W => inCircle_at b a c d _ (circ_swap a b c d) W)
  have C5 := Lib.hid (fun W => inCircle_at a b c a _ (circ_a a b c) W)
  generalize circZ a b c d = n at *
  have q1 : (n == n) = true := by simp
  go_enter Try.func4, Try.ntmps4
  go_upto_region 1 with (fail)
  refine wp_abs (fun W => Var W (w.heap.size) [.int .i64 a.x, .int .i64 a.y] ∧ Var W (w.heap.size + 1) [.int .i64 b.x, .int .i64 b.y] ∧ Var W (w.heap.size + 1 + 1) [.int .i64 c.x, .int .i64 c.y] ∧ Var W (w.heap.size + 1 + 1 + 1) [.int .i64 d.x, .int .i64 d.y] ∧ Grew w 4 W) ?_ ?_
  · exact ⟨(var2_new _ _ _ _ _ rfl).below (bl_alloc (bl_alloc (bl_one _ _) _) _), (var2_new _ _ _ _ _ (by simp)).below (bl_alloc (bl_one _ _) _), (var2_new _ _ _ _ _ (by simp)).below (bl_one _ _), var2_new _ _ _ _ _ (by simp), by repeat (first | (with_reducible exact Below.refl _ _) | (with_reducible refine bl_alloc ?_ _) | (with_reducible refine Below.drew ?_) | (with_reducible refine below_drewN' ?_ _) | ((with_reducible refine bl_set ?_ ?_ _); (rotate_left; (dsimp only; omega)))), by simp⟩
  rintro W0 hS0
  have HS0 := Lib.hid hS0
  clear hS0
  obtain ⟨c0, c1⟩ := HS0.out.1.two
  obtain ⟨c2, c3⟩ := HS0.out.2.1.two
  obtain ⟨c4, c5⟩ := HS0.out.2.2.1.two
  obtain ⟨c6, c7⟩ := HS0.out.2.2.2.1.two
  go_wp2_with fail
  (with_reducible refine (C1.out _).mono ?_); rintro e w1 ⟨rfl, hb1⟩
  replace HS0 : Hid ((fun W => Var W (w.heap.size) [.int .i64 a.x, .int .i64 a.y] ∧ Var W (w.heap.size + 1) [.int .i64 b.x, .int .i64 b.y] ∧ Var W (w.heap.size + 1 + 1) [.int .i64 c.x, .int .i64 c.y] ∧ Var W (w.heap.size + 1 + 1 + 1) [.int .i64 d.x, .int .i64 d.y] ∧ Grew w 4 W) w1) := ⟨HS0.out.1.below hb1, HS0.out.2.1.below hb1, HS0.out.2.2.1.below hb1, HS0.out.2.2.2.1.below hb1, HS0.out.2.2.2.2.below hb1⟩
  clear c0 c1 c2 c3 c4 c5 c6 c7 hb1
  obtain ⟨c0, c1⟩ := HS0.out.1.two
  obtain ⟨c2, c3⟩ := HS0.out.2.1.two
  obtain ⟨c4, c5⟩ := HS0.out.2.2.1.two
  obtain ⟨c6, c7⟩ := HS0.out.2.2.2.1.two
  go_wp2_with fail
  (with_reducible refine (C2.out _).mono ?_); rintro e w1 ⟨rfl, hb1⟩
  replace HS0 : Hid ((fun W => Var W (w.heap.size) [.int .i64 a.x, .int .i64 a.y] ∧ Var W (w.heap.size + 1) [.int .i64 b.x, .int .i64 b.y] ∧ Var W (w.heap.size + 1 + 1) [.int .i64 c.x, .int .i64 c.y] ∧ Var W (w.heap.size + 1 + 1 + 1) [.int .i64 d.x, .int .i64 d.y] ∧ Grew w 4 W) w1) := ⟨HS0.out.1.below hb1, HS0.out.2.1.below hb1, HS0.out.2.2.1.below hb1, HS0.out.2.2.2.1.below hb1, HS0.out.2.2.2.2.below hb1⟩
  clear c0 c1 c2 c3 c4 c5 c6 c7 hb1
  obtain ⟨c0, c1⟩ := HS0.out.1.two
  obtain ⟨c2, c3⟩ := HS0.out.2.1.two
  obtain ⟨c4, c5⟩ := HS0.out.2.2.1.two
  obtain ⟨c6, c7⟩ := HS0.out.2.2.2.1.two
  go_wp2_with fail
  (with_reducible refine (C3.out _).mono ?_); rintro e w1 ⟨rfl, hb1⟩
  replace HS0 : Hid ((fun W => Var W (w.heap.size) [.int .i64 a.x, .int .i64 a.y] ∧ Var W (w.heap.size + 1) [.int .i64 b.x, .int .i64 b.y] ∧ Var W (w.heap.size + 1 + 1) [.int .i64 c.x, .int .i64 c.y] ∧ Var W (w.heap.size + 1 + 1 + 1) [.int .i64 d.x, .int .i64 d.y] ∧ Grew w 4 W) w1) := ⟨HS0.out.1.below hb1, HS0.out.2.1.below hb1, HS0.out.2.2.1.below hb1, HS0.out.2.2.2.1.below hb1, HS0.out.2.2.2.2.below hb1⟩
  clear c0 c1 c2 c3 c4 c5 c6 c7 hb1
  obtain ⟨c0, c1⟩ := HS0.out.1.two
  obtain ⟨c2, c3⟩ := HS0.out.2.1.two
  obtain ⟨c4, c5⟩ := HS0.out.2.2.1.two
  obtain ⟨c6, c7⟩ := HS0.out.2.2.2.1.two
  go_wp2_with fail
  (with_reducible refine (C4.out _).mono ?_); rintro e w1 ⟨rfl, hb1⟩
  replace HS0 : Hid ((fun W => Var W (w.heap.size) [.int .i64 a.x, .int .i64 a.y] ∧ Var W (w.heap.size + 1) [.int .i64 b.x, .int .i64 b.y] ∧ Var W (w.heap.size + 1 + 1) [.int .i64 c.x, .int .i64 c.y] ∧ Var W (w.heap.size + 1 + 1 + 1) [.int .i64 d.x, .int .i64 d.y] ∧ Grew w 4 W) w1) := ⟨HS0.out.1.below hb1, HS0.out.2.1.below hb1, HS0.out.2.2.1.below hb1, HS0.out.2.2.2.1.below hb1, HS0.out.2.2.2.2.below hb1⟩
  clear c0 c1 c2 c3 c4 c5 c6 c7 hb1
  obtain ⟨c0, c1⟩ := HS0.out.1.two
  obtain ⟨c2, c3⟩ := HS0.out.2.1.two
  obtain ⟨c4, c5⟩ := HS0.out.2.2.1.two
  obtain ⟨c6, c7⟩ := HS0.out.2.2.2.1.two
  go_wp2_with fail
  (with_reducible refine (C5.out _).mono ?_); rintro e w1 ⟨rfl, hb1⟩
  replace HS0 : Hid ((fun W => Var W (w.heap.size) [.int .i64 a.x, .int .i64 a.y] ∧ Var W (w.heap.size + 1) [.int .i64 b.x, .int .i64 b.y] ∧ Var W (w.heap.size + 1 + 1) [.int .i64 c.x, .int .i64 c.y] ∧ Var W (w.heap.size + 1 + 1 + 1) [.int .i64 d.x, .int .i64 d.y] ∧ Grew w 4 W) w1) := ⟨HS0.out.1.below hb1, HS0.out.2.1.below hb1, HS0.out.2.2.1.below hb1, HS0.out.2.2.2.1.below hb1, HS0.out.2.2.2.2.below hb1⟩
  clear c0 c1 c2 c3 c4 c5 c6 c7 hb1
  obtain ⟨c0, c1⟩ := HS0.out.1.two
  obtain ⟨c2, c3⟩ := HS0.out.2.1.two
  obtain ⟨c4, c5⟩ := HS0.out.2.2.1.two
  obtain ⟨c6, c7⟩ := HS0.out.2.2.2.1.two
  have HG := Lib.hid HS0.out.2.2.2.2
  clear HS0 C1 C2 C3 C4 C5 c0 c1 c2 c3 c4 c5 c6 c7
  go_wp2_with (first
    | (go_at_call 21; (with_reducible refine (known3_l _).mono ?_); rintro e w2 ⟨rfl, hb2⟩)
    | go_in)
  go_ret
  exact ⟨rfl, (HG.out.below hb2).hb⟩
end Go.Proofs.Ytojfggnimmaemaa

namespace Go.Proofs.Ytojfggnimmaemaa.predCircles
open Go.ChangeShapes Go.WideShapes Go.ChangeAt Go.RowKit

theorem own : ownKnob Try.prog.godebug = none := by kernel_rfl

set_option maxRecDepth 100000 in
theorem lifted (os : Os) (started : os.Started) (H : Type) (enc : TypeId × Value → H) :
    ReturnsInHanded {} Try.checked os 4 .any (Rows.predCirclesSpec.pre6 enc Try.prog Try.f4 Rows.predCirclesRow.domain false) (Rows.predCirclesSpec.post enc Try.prog Try.f4 false true false false) := by
  refine returnsInHanded_of_change (C := Try.checked) own started (by kernel_rfl) Try.func4
    (ChangeSpec.witness6 (enc := enc) (C := Try.checked) false ⟨#[], #[.agg #[.int .i64 0, .int .i64 0], .agg #[.int .i64 0, .int .i64 0], .agg #[.int .i64 0, .int .i64 0], .agg #[.int .i64 0, .int .i64 0]], []⟩ 8 (by kernel_rfl) (by kernel_rfl) (by kernel_rfl) (by kernel_rfl)) ?_
  intro W base args ds gs before hval0 hW _ _
  have hval : ∀ (j : Nat) t v, Try.f4.params[j]? = some t → args[j]? = some v → Value.okWide Try.prog W .any base t v := hval0
  have hW' := hW
  obtain ⟨p, q, hA0, hV, rfl, -, -⟩ := hW
  have hA : DataW.TrodAll enc Try.prog W 0 (fun _ => true) true Try.f4.params.toList args.toList ds p := hA0
  rw [Try.params4] at hA hval
  obtain ⟨v0, vs0, d0, ds0, p0, q0, hargs0, rfl, rfl, h0, r0⟩ := trodAll_cons hA
  obtain ⟨v1, vs1, d1, ds1, p1, q1, hargs1, rfl, rfl, h1, r1⟩ := trodAll_cons r0
  obtain ⟨v2, vs2, d2, ds2, p2, q2, hargs2, rfl, rfl, h2, r2⟩ := trodAll_cons r1
  obtain ⟨v3, vs3, d3, ds3, p3, q3, hargs3, rfl, rfl, h3, r3⟩ := trodAll_cons r2
  obtain ⟨rfl, rfl, rfl⟩ := trodAll_nil r3
  obtain rfl : args = #[v0, v1, v2, v3] := by cases args; simp_all
  obtain ⟨rfl, rfl⟩ := trodVars_none hV
  obtain ⟨a0, rfl, rfl, rfl, wx0, wy0⟩ := open_pt (hval 0 23 v0 rfl rfl) h0
  obtain ⟨a1, rfl, rfl, rfl, wx1, wy1⟩ := open_pt (hval 1 23 v1 rfl rfl) h1
  obtain ⟨a2, rfl, rfl, rfl, wx2, wy2⟩ := open_pt (hval 2 23 v2 rfl rfl) h2
  obtain ⟨a3, rfl, rfl, rfl, wx3, wy3⟩ := open_pt (hval 3 23 v3 rfl rfl) h3
  clear hA0 hval0
  simp only [List.append_nil] at hW'
  refine (pcircles_l a0 a1 a2 a3 W).mono fun e W' h => ?_
  obtain ⟨he, hb⟩ := h
  subst he
  exact ⟨_, rfl, _, _, _, [], [], [], hW', trodAll_cons_mk (shut_bool Try.underlying4 _) trodAll_mk0, (trodAll_cons_mk (p := []) (p' := []) (shut_pt wx0 wy0) (trodAll_cons_mk (p := []) (p' := []) (shut_pt wx1 wy1) (trodAll_cons_mk (p := []) (p' := []) (shut_pt wx2 wy2) (trodAll_cons_mk (p := []) (p' := []) (shut_pt wx3 wy3) trodAll_mk0)))), rfl, hb.frame _, fun h => by cases h⟩

theorem proved : Rows.PredCirclesSaid :=
  OpenClaim.holds_of_wide 4 Try.f4 rfl rfl rfl rfl rfl rfl rfl ⟨rfl, rfl, rfl, rfl, rfl⟩ rfl rfl rfl rfl rfl (by kernel_rfl) Try.func4 (by kernel_rfl)
    (of_decide_eq_true (by kernel_rfl)) (by unfold Func.isWrapper; first | (rw [if_pos (by decide +kernel)]; kernel_rfl) | (rw [if_neg (by decide +kernel)]; exact ⟨rfl, rfl⟩))
    (fun os started H enc _ => lifted os started H enc)
end Go.Proofs.Ytojfggnimmaemaa.predCircles
