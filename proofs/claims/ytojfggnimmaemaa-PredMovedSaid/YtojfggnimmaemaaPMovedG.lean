/-
  The walk of the law PredMoved, part 4.
-/
import Derived.Test.YtojfggnimmaemaaPMovedD
namespace Go.Proofs.Ytojfggnimmaemaa
open Go.RowKit

set_option maxHeartbeats 16000000 in
set_option maxRecDepth 100000 in
noncomputable def pmG (a b c d t : Pt) (w : World) : {P : Prop // Tail P → (pmF a b c d t w).val} := ⟨_, fun hP => by
  intro p2 q2 r2 s2 zo zc zd zs g11 g12 g13 g14 g15 g16 g17 g18 K0 aK0 wc N1 N2 N3 N4 NP1 NP2 NP3 NP4 CO CC CD CS e1 e2 e3 e4 e5 n1 n2 HS0
  intros
  go_upto_region 15 with (fail)
  go_cut [19] (fun pv W => ∃ g19 : Nat, pv = .pointer (some ⟨g19, 0, none⟩) ∧ Var W (g19) [.int .i64 p2.x, .int .i64 p2.y] ∧ (fun W => Var W (w.heap.size) [.int .i64 a.x, .int .i64 a.y] ∧ Var W (w.heap.size + 1) [.int .i64 b.x, .int .i64 b.y] ∧ Var W (w.heap.size + 1 + 1) [.int .i64 c.x, .int .i64 c.y] ∧ Var W (w.heap.size + 1 + 1 + 1) [.int .i64 d.x, .int .i64 d.y] ∧ Var W (w.heap.size + 1 + 1 + 1 + 1) [.int .i64 t.x, .int .i64 t.y] ∧ Grew w 5 W) W)
  case first =>
    obtain ⟨c0, c1⟩ := HS0.out.1.two
    obtain ⟨c2, c3⟩ := HS0.out.2.1.two
    obtain ⟨c4, c5⟩ := HS0.out.2.2.1.two
    obtain ⟨c6, c7⟩ := HS0.out.2.2.2.1.two
    obtain ⟨c8, c9⟩ := HS0.out.2.2.2.2.1.two
    go_wp2_with fail
    (with_reducible refine (N1.out _).mono ?_); rintro e w1 ⟨rfl, hb1⟩
    try dsimp only
    go_wp2_with fail
    go_meet
    case rel => exact ⟨_, rfl, var2_new _ _ _ _ _ rfl, ⟨HS0.out.1.below (bl_trans hb1 (bl_one _ _)), HS0.out.2.1.below (bl_trans hb1 (bl_one _ _)), HS0.out.2.2.1.below (bl_trans hb1 (bl_one _ _)), HS0.out.2.2.2.1.below (bl_trans hb1 (bl_one _ _)), HS0.out.2.2.2.2.1.below (bl_trans hb1 (bl_one _ _)), HS0.out.2.2.2.2.2.below (bl_trans hb1 (bl_one _ _))⟩⟩
  case rest =>
  obtain ⟨g19, rfl, vn, hS0⟩ := hcut
  clear HS0
  have HS0 : Hid ((fun W => Var W (w.heap.size) [.int .i64 a.x, .int .i64 a.y] ∧ Var W (w.heap.size + 1) [.int .i64 b.x, .int .i64 b.y] ∧ Var W (w.heap.size + 1 + 1) [.int .i64 c.x, .int .i64 c.y] ∧ Var W (w.heap.size + 1 + 1 + 1) [.int .i64 d.x, .int .i64 d.y] ∧ Var W (w.heap.size + 1 + 1 + 1 + 1) [.int .i64 t.x, .int .i64 t.y] ∧ Var W (g19) [.int .i64 p2.x, .int .i64 p2.y] ∧ Grew w 5 W) _) := ⟨hS0.1, hS0.2.1, hS0.2.2.1, hS0.2.2.2.1, hS0.2.2.2.2.1, vn, hS0.2.2.2.2.2⟩
  clear hS0 vn
  go_upto_region 16 with (fail)
  go_cut [20] (fun pv W => ∃ g20 : Nat, pv = .pointer (some ⟨g20, 0, none⟩) ∧ Var W (g20) [.int .i64 q2.x, .int .i64 q2.y] ∧ (fun W => Var W (w.heap.size) [.int .i64 a.x, .int .i64 a.y] ∧ Var W (w.heap.size + 1) [.int .i64 b.x, .int .i64 b.y] ∧ Var W (w.heap.size + 1 + 1) [.int .i64 c.x, .int .i64 c.y] ∧ Var W (w.heap.size + 1 + 1 + 1) [.int .i64 d.x, .int .i64 d.y] ∧ Var W (w.heap.size + 1 + 1 + 1 + 1) [.int .i64 t.x, .int .i64 t.y] ∧ Var W (g19) [.int .i64 p2.x, .int .i64 p2.y] ∧ Grew w 5 W) W)
  case first =>
    obtain ⟨c0, c1⟩ := HS0.out.1.two
    obtain ⟨c2, c3⟩ := HS0.out.2.1.two
    obtain ⟨c4, c5⟩ := HS0.out.2.2.1.two
    obtain ⟨c6, c7⟩ := HS0.out.2.2.2.1.two
    obtain ⟨c8, c9⟩ := HS0.out.2.2.2.2.1.two
    obtain ⟨c10, c11⟩ := HS0.out.2.2.2.2.2.1.two
    go_wp2_with fail
    (with_reducible refine (N2.out _).mono ?_); rintro e w1 ⟨rfl, hb1⟩
    try dsimp only
    go_wp2_with fail
    go_meet
    case rel => exact ⟨_, rfl, var2_new _ _ _ _ _ rfl, ⟨HS0.out.1.below (bl_trans hb1 (bl_one _ _)), HS0.out.2.1.below (bl_trans hb1 (bl_one _ _)), HS0.out.2.2.1.below (bl_trans hb1 (bl_one _ _)), HS0.out.2.2.2.1.below (bl_trans hb1 (bl_one _ _)), HS0.out.2.2.2.2.1.below (bl_trans hb1 (bl_one _ _)), HS0.out.2.2.2.2.2.1.below (bl_trans hb1 (bl_one _ _)), HS0.out.2.2.2.2.2.2.below (bl_trans hb1 (bl_one _ _))⟩⟩
  case rest =>
  obtain ⟨g20, rfl, vn, hS0⟩ := hcut
  clear HS0
  have HS0 : Hid ((fun W => Var W (w.heap.size) [.int .i64 a.x, .int .i64 a.y] ∧ Var W (w.heap.size + 1) [.int .i64 b.x, .int .i64 b.y] ∧ Var W (w.heap.size + 1 + 1) [.int .i64 c.x, .int .i64 c.y] ∧ Var W (w.heap.size + 1 + 1 + 1) [.int .i64 d.x, .int .i64 d.y] ∧ Var W (w.heap.size + 1 + 1 + 1 + 1) [.int .i64 t.x, .int .i64 t.y] ∧ Var W (g19) [.int .i64 p2.x, .int .i64 p2.y] ∧ Var W (g20) [.int .i64 q2.x, .int .i64 q2.y] ∧ Grew w 5 W) _) := ⟨hS0.1, hS0.2.1, hS0.2.2.1, hS0.2.2.2.1, hS0.2.2.2.2.1, hS0.2.2.2.2.2.1, vn, hS0.2.2.2.2.2.2⟩
  clear hS0 vn
  clear N1 N2
  rename_i K aK
  refine aK _ _ ?_
  clear aK K
  repeat revert ‹Value›
  revert HS0
  revert n2
  revert n1
  revert e5
  revert e4
  revert e3
  revert e2
  revert e1
  revert CS
  revert CD
  revert CC
  revert CO
  revert NP4
  revert NP3
  revert NP2
  revert NP1
  revert N4
  revert N3
  revert wc
  revert g20
  revert g19
  revert g18
  revert g17
  revert g16
  revert g15
  revert g14
  revert g13
  revert g12
  revert g11
  revert zs
  revert zd
  revert zc
  revert zo
  revert s2
  revert r2
  revert q2
  revert p2
  exact hP.out⟩
end Go.Proofs.Ytojfggnimmaemaa
