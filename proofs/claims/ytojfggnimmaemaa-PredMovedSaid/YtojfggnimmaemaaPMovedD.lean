/-
  The walk of the law PredMoved, part 3.
-/
import Derived.Test.YtojfggnimmaemaaPMovedC
namespace Go.Proofs.Ytojfggnimmaemaa
open Go.RowKit

set_option maxHeartbeats 16000000 in
set_option maxRecDepth 100000 in
noncomputable def pmD (a b c d t : Pt) (w : World) : {P : Prop // Tail P → (pmC a b c d t w).val} := ⟨_, fun hP => by
  intro p1 q1 r1 s1 p2 q2 r2 s2 zo zc zd zs g11 g12 g13 g14 K0 aK0 wc T1 T2 T3 T4 N1 N2 N3 N4 TP1 TP2 TP3 TP4 NP1 NP2 NP3 NP4 CO CC CD CS e1 e2 e3 e4 e5 n1 n2 HS0
  intros
  go_upto_region 9 with (fail)
  go_cut [15] (fun pv W => ∃ g15 : Nat, pv = .pointer (some ⟨g15, 0, none⟩) ∧ Var W (g15) [.int .i64 p1.x, .int .i64 p1.y] ∧ (fun W => Var W (w.heap.size) [.int .i64 a.x, .int .i64 a.y] ∧ Var W (w.heap.size + 1) [.int .i64 b.x, .int .i64 b.y] ∧ Var W (w.heap.size + 1 + 1) [.int .i64 c.x, .int .i64 c.y] ∧ Var W (w.heap.size + 1 + 1 + 1) [.int .i64 d.x, .int .i64 d.y] ∧ Var W (w.heap.size + 1 + 1 + 1 + 1) [.int .i64 t.x, .int .i64 t.y] ∧ Grew w 5 W) W)
  case first =>
    obtain ⟨c0, c1⟩ := HS0.out.1.two
    obtain ⟨c2, c3⟩ := HS0.out.2.1.two
    obtain ⟨c4, c5⟩ := HS0.out.2.2.1.two
    obtain ⟨c6, c7⟩ := HS0.out.2.2.2.1.two
    obtain ⟨c8, c9⟩ := HS0.out.2.2.2.2.1.two
    go_wp2_with fail
    (with_reducible refine (T1.out _).mono ?_); rintro e w1 ⟨rfl, hb1⟩
    try dsimp only
    go_wp2_with fail
    go_meet
    case rel => exact ⟨_, rfl, var2_new _ _ _ _ _ rfl, ⟨HS0.out.1.below (bl_trans hb1 (bl_one _ _)), HS0.out.2.1.below (bl_trans hb1 (bl_one _ _)), HS0.out.2.2.1.below (bl_trans hb1 (bl_one _ _)), HS0.out.2.2.2.1.below (bl_trans hb1 (bl_one _ _)), HS0.out.2.2.2.2.1.below (bl_trans hb1 (bl_one _ _)), HS0.out.2.2.2.2.2.below (bl_trans hb1 (bl_one _ _))⟩⟩
  case rest =>
  obtain ⟨g15, rfl, vn, hS0⟩ := hcut
  clear HS0
  have HS0 : Hid ((fun W => Var W (w.heap.size) [.int .i64 a.x, .int .i64 a.y] ∧ Var W (w.heap.size + 1) [.int .i64 b.x, .int .i64 b.y] ∧ Var W (w.heap.size + 1 + 1) [.int .i64 c.x, .int .i64 c.y] ∧ Var W (w.heap.size + 1 + 1 + 1) [.int .i64 d.x, .int .i64 d.y] ∧ Var W (w.heap.size + 1 + 1 + 1 + 1) [.int .i64 t.x, .int .i64 t.y] ∧ Var W (g15) [.int .i64 p1.x, .int .i64 p1.y] ∧ Grew w 5 W) _) := ⟨hS0.1, hS0.2.1, hS0.2.2.1, hS0.2.2.2.1, hS0.2.2.2.2.1, vn, hS0.2.2.2.2.2⟩
  clear hS0 vn
  go_upto_region 10 with (fail)
  go_cut [16] (fun pv W => ∃ g16 : Nat, pv = .pointer (some ⟨g16, 0, none⟩) ∧ Var W (g16) [.int .i64 q1.x, .int .i64 q1.y] ∧ (fun W => Var W (w.heap.size) [.int .i64 a.x, .int .i64 a.y] ∧ Var W (w.heap.size + 1) [.int .i64 b.x, .int .i64 b.y] ∧ Var W (w.heap.size + 1 + 1) [.int .i64 c.x, .int .i64 c.y] ∧ Var W (w.heap.size + 1 + 1 + 1) [.int .i64 d.x, .int .i64 d.y] ∧ Var W (w.heap.size + 1 + 1 + 1 + 1) [.int .i64 t.x, .int .i64 t.y] ∧ Var W (g15) [.int .i64 p1.x, .int .i64 p1.y] ∧ Grew w 5 W) W)
  case first =>
    obtain ⟨c0, c1⟩ := HS0.out.1.two
    obtain ⟨c2, c3⟩ := HS0.out.2.1.two
    obtain ⟨c4, c5⟩ := HS0.out.2.2.1.two
    obtain ⟨c6, c7⟩ := HS0.out.2.2.2.1.two
    obtain ⟨c8, c9⟩ := HS0.out.2.2.2.2.1.two
    obtain ⟨c10, c11⟩ := HS0.out.2.2.2.2.2.1.two
    go_wp2_with fail
    (with_reducible refine (T2.out _).mono ?_); rintro e w1 ⟨rfl, hb1⟩
    try dsimp only
    go_wp2_with fail
    go_meet
    case rel => exact ⟨_, rfl, var2_new _ _ _ _ _ rfl, ⟨HS0.out.1.below (bl_trans hb1 (bl_one _ _)), HS0.out.2.1.below (bl_trans hb1 (bl_one _ _)), HS0.out.2.2.1.below (bl_trans hb1 (bl_one _ _)), HS0.out.2.2.2.1.below (bl_trans hb1 (bl_one _ _)), HS0.out.2.2.2.2.1.below (bl_trans hb1 (bl_one _ _)), HS0.out.2.2.2.2.2.1.below (bl_trans hb1 (bl_one _ _)), HS0.out.2.2.2.2.2.2.below (bl_trans hb1 (bl_one _ _))⟩⟩
  case rest =>
  obtain ⟨g16, rfl, vn, hS0⟩ := hcut
  clear HS0
  have HS0 : Hid ((fun W => Var W (w.heap.size) [.int .i64 a.x, .int .i64 a.y] ∧ Var W (w.heap.size + 1) [.int .i64 b.x, .int .i64 b.y] ∧ Var W (w.heap.size + 1 + 1) [.int .i64 c.x, .int .i64 c.y] ∧ Var W (w.heap.size + 1 + 1 + 1) [.int .i64 d.x, .int .i64 d.y] ∧ Var W (w.heap.size + 1 + 1 + 1 + 1) [.int .i64 t.x, .int .i64 t.y] ∧ Var W (g15) [.int .i64 p1.x, .int .i64 p1.y] ∧ Var W (g16) [.int .i64 q1.x, .int .i64 q1.y] ∧ Grew w 5 W) _) := ⟨hS0.1, hS0.2.1, hS0.2.2.1, hS0.2.2.2.1, hS0.2.2.2.2.1, hS0.2.2.2.2.2.1, vn, hS0.2.2.2.2.2.2⟩
  clear hS0 vn
  clear T1 T2
  rename_i K aK
  refine aK _ _ ?_
  clear aK K
  repeat revert ‹Value›
  revert HS0
  revert n2
  revert n1
  revert e5
  revert e4
  revert e3
  revert e2
  revert e1
  revert CS
  revert CD
  revert CC
  revert CO
  revert NP4
  revert NP3
  revert NP2
  revert NP1
  revert TP4
  revert TP3
  revert TP2
  revert TP1
  revert N4
  revert N3
  revert N2
  revert N1
  revert T4
  revert T3
  revert wc
  revert g16
  revert g15
  revert g14
  revert g13
  revert g12
  revert g11
  revert zs
  revert zd
  revert zc
  revert zo
  revert s2
  revert r2
  revert q2
  revert p2
  revert s1
  revert r1
  revert q1
  revert p1
  exact hP.out⟩

set_option maxHeartbeats 16000000 in
set_option maxRecDepth 100000 in
noncomputable def pmE (a b c d t : Pt) (w : World) : {P : Prop // Tail P → (pmD a b c d t w).val} := ⟨_, fun hP => by
  intro p1 q1 r1 s1 p2 q2 r2 s2 zo zc zd zs g11 g12 g13 g14 g15 g16 wc T3 T4 N1 N2 N3 N4 TP1 TP2 TP3 TP4 NP1 NP2 NP3 NP4 CO CC CD CS e1 e2 e3 e4 e5 n1 n2 HS0
  intros
  go_upto_region 11 with (fail)
  go_cut [17] (fun pv W => ∃ g17 : Nat, pv = .pointer (some ⟨g17, 0, none⟩) ∧ Var W (g17) [.int .i64 r1.x, .int .i64 r1.y] ∧ (fun W => Var W (w.heap.size) [.int .i64 a.x, .int .i64 a.y] ∧ Var W (w.heap.size + 1) [.int .i64 b.x, .int .i64 b.y] ∧ Var W (w.heap.size + 1 + 1) [.int .i64 c.x, .int .i64 c.y] ∧ Var W (w.heap.size + 1 + 1 + 1) [.int .i64 d.x, .int .i64 d.y] ∧ Var W (w.heap.size + 1 + 1 + 1 + 1) [.int .i64 t.x, .int .i64 t.y] ∧ Var W (g15) [.int .i64 p1.x, .int .i64 p1.y] ∧ Var W (g16) [.int .i64 q1.x, .int .i64 q1.y] ∧ Grew w 5 W) W)
  case first =>
    obtain ⟨c0, c1⟩ := HS0.out.1.two
    obtain ⟨c2, c3⟩ := HS0.out.2.1.two
    obtain ⟨c4, c5⟩ := HS0.out.2.2.1.two
    obtain ⟨c6, c7⟩ := HS0.out.2.2.2.1.two
    obtain ⟨c8, c9⟩ := HS0.out.2.2.2.2.1.two
    obtain ⟨c10, c11⟩ := HS0.out.2.2.2.2.2.1.two
    obtain ⟨c12, c13⟩ := HS0.out.2.2.2.2.2.2.1.two
    go_wp2_with fail
    (with_reducible refine (T3.out _).mono ?_); rintro e w1 ⟨rfl, hb1⟩
    try dsimp only
    go_wp2_with fail
    go_meet
    case rel => exact ⟨_, rfl, var2_new _ _ _ _ _ rfl, ⟨HS0.out.1.below (bl_trans hb1 (bl_one _ _)), HS0.out.2.1.below (bl_trans hb1 (bl_one _ _)), HS0.out.2.2.1.below (bl_trans hb1 (bl_one _ _)), HS0.out.2.2.2.1.below (bl_trans hb1 (bl_one _ _)), HS0.out.2.2.2.2.1.below (bl_trans hb1 (bl_one _ _)), HS0.out.2.2.2.2.2.1.below (bl_trans hb1 (bl_one _ _)), HS0.out.2.2.2.2.2.2.1.below (bl_trans hb1 (bl_one _ _)), HS0.out.2.2.2.2.2.2.2.below (bl_trans hb1 (bl_one _ _))⟩⟩
  case rest =>
  obtain ⟨g17, rfl, vn, hS0⟩ := hcut
  clear HS0
  have HS0 : Hid ((fun W => Var W (w.heap.size) [.int .i64 a.x, .int .i64 a.y] ∧ Var W (w.heap.size + 1) [.int .i64 b.x, .int .i64 b.y] ∧ Var W (w.heap.size + 1 + 1) [.int .i64 c.x, .int .i64 c.y] ∧ Var W (w.heap.size + 1 + 1 + 1) [.int .i64 d.x, .int .i64 d.y] ∧ Var W (w.heap.size + 1 + 1 + 1 + 1) [.int .i64 t.x, .int .i64 t.y] ∧ Var W (g15) [.int .i64 p1.x, .int .i64 p1.y] ∧ Var W (g16) [.int .i64 q1.x, .int .i64 q1.y] ∧ Var W (g17) [.int .i64 r1.x, .int .i64 r1.y] ∧ Grew w 5 W) _) := ⟨hS0.1, hS0.2.1, hS0.2.2.1, hS0.2.2.2.1, hS0.2.2.2.2.1, hS0.2.2.2.2.2.1, hS0.2.2.2.2.2.2.1, vn, hS0.2.2.2.2.2.2.2⟩
  clear hS0 vn
  go_upto_region 12 with (fail)
  go_cut [18] (fun pv W => ∃ g18 : Nat, pv = .pointer (some ⟨g18, 0, none⟩) ∧ Var W (g18) [.int .i64 s1.x, .int .i64 s1.y] ∧ (fun W => Var W (w.heap.size) [.int .i64 a.x, .int .i64 a.y] ∧ Var W (w.heap.size + 1) [.int .i64 b.x, .int .i64 b.y] ∧ Var W (w.heap.size + 1 + 1) [.int .i64 c.x, .int .i64 c.y] ∧ Var W (w.heap.size + 1 + 1 + 1) [.int .i64 d.x, .int .i64 d.y] ∧ Var W (w.heap.size + 1 + 1 + 1 + 1) [.int .i64 t.x, .int .i64 t.y] ∧ Var W (g15) [.int .i64 p1.x, .int .i64 p1.y] ∧ Var W (g16) [.int .i64 q1.x, .int .i64 q1.y] ∧ Var W (g17) [.int .i64 r1.x, .int .i64 r1.y] ∧ Grew w 5 W) W)
  case first =>
    obtain ⟨c0, c1⟩ := HS0.out.1.two
    obtain ⟨c2, c3⟩ := HS0.out.2.1.two
    obtain ⟨c4, c5⟩ := HS0.out.2.2.1.two
    obtain ⟨c6, c7⟩ := HS0.out.2.2.2.1.two
    obtain ⟨c8, c9⟩ := HS0.out.2.2.2.2.1.two
    obtain ⟨c10, c11⟩ := HS0.out.2.2.2.2.2.1.two
    obtain ⟨c12, c13⟩ := HS0.out.2.2.2.2.2.2.1.two
    obtain ⟨c14, c15⟩ := HS0.out.2.2.2.2.2.2.2.1.two
    go_wp2_with fail
    (with_reducible refine (T4.out _).mono ?_); rintro e w1 ⟨rfl, hb1⟩
    try dsimp only
    go_wp2_with fail
    go_meet
    case rel => exact ⟨_, rfl, var2_new _ _ _ _ _ rfl, ⟨HS0.out.1.below (bl_trans hb1 (bl_one _ _)), HS0.out.2.1.below (bl_trans hb1 (bl_one _ _)), HS0.out.2.2.1.below (bl_trans hb1 (bl_one _ _)), HS0.out.2.2.2.1.below (bl_trans hb1 (bl_one _ _)), HS0.out.2.2.2.2.1.below (bl_trans hb1 (bl_one _ _)), HS0.out.2.2.2.2.2.1.below (bl_trans hb1 (bl_one _ _)), HS0.out.2.2.2.2.2.2.1.below (bl_trans hb1 (bl_one _ _)), HS0.out.2.2.2.2.2.2.2.1.below (bl_trans hb1 (bl_one _ _)), HS0.out.2.2.2.2.2.2.2.2.below (bl_trans hb1 (bl_one _ _))⟩⟩
  case rest =>
  obtain ⟨g18, rfl, vn, hS0⟩ := hcut
  clear HS0
  have HS0 : Hid ((fun W => Var W (w.heap.size) [.int .i64 a.x, .int .i64 a.y] ∧ Var W (w.heap.size + 1) [.int .i64 b.x, .int .i64 b.y] ∧ Var W (w.heap.size + 1 + 1) [.int .i64 c.x, .int .i64 c.y] ∧ Var W (w.heap.size + 1 + 1 + 1) [.int .i64 d.x, .int .i64 d.y] ∧ Var W (w.heap.size + 1 + 1 + 1 + 1) [.int .i64 t.x, .int .i64 t.y] ∧ Var W (g15) [.int .i64 p1.x, .int .i64 p1.y] ∧ Var W (g16) [.int .i64 q1.x, .int .i64 q1.y] ∧ Var W (g17) [.int .i64 r1.x, .int .i64 r1.y] ∧ Var W (g18) [.int .i64 s1.x, .int .i64 s1.y] ∧ Grew w 5 W) _) := ⟨hS0.1, hS0.2.1, hS0.2.2.1, hS0.2.2.2.1, hS0.2.2.2.2.1, hS0.2.2.2.2.2.1, hS0.2.2.2.2.2.2.1, hS0.2.2.2.2.2.2.2.1, vn, hS0.2.2.2.2.2.2.2.2⟩
  clear hS0 vn
  clear T3 T4
  rename_i K aK
  refine aK _ _ ?_
  clear aK K
  repeat revert ‹Value›
  revert HS0
  revert n2
  revert n1
  revert e5
  revert e4
  revert e3
  revert e2
  revert e1
  revert CS
  revert CD
  revert CC
  revert CO
  revert NP4
  revert NP3
  revert NP2
  revert NP1
  revert TP4
  revert TP3
  revert TP2
  revert TP1
  revert N4
  revert N3
  revert N2
  revert N1
  revert wc
  revert g18
  revert g17
  revert g16
  revert g15
  revert g14
  revert g13
  revert g12
  revert g11
  revert zs
  revert zd
  revert zc
  revert zo
  revert s2
  revert r2
  revert q2
  revert p2
  revert s1
  revert r1
  revert q1
  revert p1
  exact hP.out⟩

set_option maxHeartbeats 16000000 in
set_option maxRecDepth 100000 in
noncomputable def pmF (a b c d t : Pt) (w : World) : {P : Prop // Tail P → (pmE a b c d t w).val} := ⟨_, fun hP => by
  intro p1 q1 r1 s1 p2 q2 r2 s2 zo zc zd zs g11 g12 g13 g14 g15 g16 g17 g18 wc N1 N2 N3 N4 TP1 TP2 TP3 TP4 NP1 NP2 NP3 NP4 CO CC CD CS e1 e2 e3 e4 e5 n1 n2 HS0
  intros
  go_upto_region 13 with (fail)
  go_cut [177] (fun tv W => tv = .bool false ∧ (fun W => Var W (w.heap.size) [.int .i64 a.x, .int .i64 a.y] ∧ Var W (w.heap.size + 1) [.int .i64 b.x, .int .i64 b.y] ∧ Var W (w.heap.size + 1 + 1) [.int .i64 c.x, .int .i64 c.y] ∧ Var W (w.heap.size + 1 + 1 + 1) [.int .i64 d.x, .int .i64 d.y] ∧ Var W (w.heap.size + 1 + 1 + 1 + 1) [.int .i64 t.x, .int .i64 t.y] ∧ Var W (g15) [.int .i64 p1.x, .int .i64 p1.y] ∧ Var W (g16) [.int .i64 q1.x, .int .i64 q1.y] ∧ Var W (g17) [.int .i64 r1.x, .int .i64 r1.y] ∧ Var W (g18) [.int .i64 s1.x, .int .i64 s1.y] ∧ Grew w 5 W) W)
  case first =>
    clear N1 N2 N3 N4 NP1 NP2 NP3 NP4
    refine wp_region_bel (by kernel_rfl) (fun hHeld => ?_)
    revert hHeld
    generalize World.drew _ = W1
    intro hHeld
    refine tk2 (i := 0) (v := ?_) rfl (Or.inl ⟨by rfl, ?_⟩) ?_
    rotate_left
    · intro Wq hSw
      obtain ⟨k0, k1⟩ := (HS0.out.2.2.2.2.2.1.below hSw).two
      clear hSw
      go_simp
      all_goals (with_reducible rfl)
    try simp only [Act.put, List.getElem_toArray, List.getElem_cons_zero, List.setIfInBounds_toArray, List.set_cons_zero, List.set_cons_succ]
    refine tk2 (i := 1) (v := ?_) rfl (Or.inl ⟨by rfl, ?_⟩) ?_
    rotate_left
    · intro Wq hSw
      obtain ⟨k0, k1⟩ := (HS0.out.2.2.2.2.2.2.1.below hSw).two
      clear hSw
      go_simp
      all_goals (with_reducible rfl)
    try simp only [Act.put, List.getElem_toArray, List.getElem_cons_succ, List.getElem_cons_zero, List.setIfInBounds_toArray, List.set_cons_zero, List.set_cons_succ]
    refine tk2 (i := 2) (v := ?_) rfl (Or.inl ⟨by rfl, ?_⟩) ?_
    rotate_left
    · intro Wq hSw
      obtain ⟨k0, k1⟩ := (HS0.out.2.2.2.2.2.2.2.1.below hSw).two
      clear hSw
      go_simp
      all_goals (with_reducible rfl)
    try simp only [Act.put, List.getElem_toArray, List.getElem_cons_succ, List.getElem_cons_zero, List.setIfInBounds_toArray, List.set_cons_zero, List.set_cons_succ]
    refine tk2 (i := 4) (v := ?_) rfl (Or.inl ⟨by rfl, ?_⟩) ?_
    rotate_left
    · intro Wq hSw
      obtain ⟨k0, k1⟩ := (HS0.out.1.below hSw).two
      clear hSw
      go_simp
      all_goals (with_reducible rfl)
    try simp only [Act.put, List.getElem_toArray, List.getElem_cons_succ, List.getElem_cons_zero, List.setIfInBounds_toArray, List.set_cons_zero, List.set_cons_succ]
    refine tk2 (i := 5) (v := ?_) rfl (Or.inl ⟨by rfl, ?_⟩) ?_
    rotate_left
    · intro Wq hSw
      obtain ⟨k0, k1⟩ := (HS0.out.2.1.below hSw).two
      clear hSw
      go_simp
      all_goals (with_reducible rfl)
    try simp only [Act.put, List.getElem_toArray, List.getElem_cons_succ, List.getElem_cons_zero, List.setIfInBounds_toArray, List.set_cons_zero, List.set_cons_succ]
    refine tk2 (i := 6) (v := ?_) rfl (Or.inl ⟨by rfl, ?_⟩) ?_
    rotate_left
    · intro Wq hSw
      obtain ⟨k0, k1⟩ := (HS0.out.2.2.1.below hSw).two
      clear hSw
      go_simp
      all_goals (with_reducible rfl)
    try simp only [Act.put, List.getElem_toArray, List.getElem_cons_succ, List.getElem_cons_zero, List.setIfInBounds_toArray, List.set_cons_zero, List.set_cons_succ]
    refine ry1 (i := 3) rfl (fun K hK => ?_)
    go_simp
    go_at_call 19
    (with_reducible refine (TP1.out _).mono ?_); rintro e w1 ⟨rfl, hb1⟩
    try dsimp only
    go_wp2_with fail
    refine hK.out _ _ (bl_trans hHeld hb1) (fun hHeld2 => ?_)
    clear hK K hHeld hb1
    have hHeld := hHeld2
    clear hHeld2
    try simp only [Act.put, List.getElem_toArray, List.getElem_cons_succ, List.getElem_cons_zero, List.setIfInBounds_toArray, List.set_cons_zero, List.set_cons_succ]
    refine ry1 (i := 7) rfl (fun K hK => ?_)
    go_simp
    go_at_call 19
    (with_reducible refine (CO.out _).mono ?_); rintro e w1 ⟨rfl, hb1⟩
    try dsimp only
    go_wp2_with fail
    refine hK.out _ _ (bl_trans hHeld hb1) (fun hHeld2 => ?_)
    clear hK K hHeld hb1
    have hHeld := hHeld2
    clear hHeld2
    try simp only [Act.put, List.getElem_toArray, List.getElem_cons_succ, List.getElem_cons_zero, List.setIfInBounds_toArray, List.set_cons_zero, List.set_cons_succ]
    refine tk2 (i := 8) (v := ?_) rfl (Or.inl ⟨by rfl, ?_⟩) ?_
    rotate_left
    · intro Wq hSw
      clear hSw
      go_simp
      all_goals (with_reducible rfl)
    try simp only [Act.put, List.getElem_toArray, List.getElem_cons_succ, List.getElem_cons_zero, List.setIfInBounds_toArray, List.set_cons_zero, List.set_cons_succ]
    refine tk2 (i := 9) (v := ?_) rfl (Or.inl ⟨by rfl, ?_⟩) ?_
    rotate_left
    · intro Wq hSw
      clear hSw
      go_simp
      all_goals (with_reducible rfl)
    try simp only [Act.put, List.getElem_toArray, List.getElem_cons_succ, List.getElem_cons_zero, List.setIfInBounds_toArray, List.set_cons_zero, List.set_cons_succ]
    refine tk2 (i := 10) (v := ?_) rfl (Or.inl ⟨by rfl, ?_⟩) ?_
    rotate_left
    · intro Wq hSw
      obtain ⟨k0, k1⟩ := (HS0.out.2.2.2.2.2.1.below hSw).two
      clear hSw
      go_simp
      all_goals (with_reducible rfl)
    try simp only [Act.put, List.getElem_toArray, List.getElem_cons_succ, List.getElem_cons_zero, List.setIfInBounds_toArray, List.set_cons_zero, List.set_cons_succ]
    refine tk2 (i := 11) (v := ?_) rfl (Or.inl ⟨by rfl, ?_⟩) ?_
    rotate_left
    · intro Wq hSw
      obtain ⟨k0, k1⟩ := (HS0.out.2.2.2.2.2.2.1.below hSw).two
      clear hSw
      go_simp
      all_goals (with_reducible rfl)
    try simp only [Act.put, List.getElem_toArray, List.getElem_cons_succ, List.getElem_cons_zero, List.setIfInBounds_toArray, List.set_cons_zero, List.set_cons_succ]
    refine tk2 (i := 12) (v := ?_) rfl (Or.inl ⟨by rfl, ?_⟩) ?_
    rotate_left
    · intro Wq hSw
      obtain ⟨k0, k1⟩ := (HS0.out.2.2.2.2.2.2.2.1.below hSw).two
      clear hSw
      go_simp
      all_goals (with_reducible rfl)
    try simp only [Act.put, List.getElem_toArray, List.getElem_cons_succ, List.getElem_cons_zero, List.setIfInBounds_toArray, List.set_cons_zero, List.set_cons_succ]
    refine tk2 (i := 13) (v := ?_) rfl (Or.inl ⟨by rfl, ?_⟩) ?_
    rotate_left
    · intro Wq hSw
      obtain ⟨k0, k1⟩ := (HS0.out.2.2.2.2.2.2.2.2.1.below hSw).two
      clear hSw
      go_simp
      all_goals (with_reducible rfl)
    try simp only [Act.put, List.getElem_toArray, List.getElem_cons_succ, List.getElem_cons_zero, List.setIfInBounds_toArray, List.set_cons_zero, List.set_cons_succ]
    refine tk2 (i := 15) (v := ?_) rfl (Or.inl ⟨by rfl, ?_⟩) ?_
    rotate_left
    · intro Wq hSw
      obtain ⟨k0, k1⟩ := (HS0.out.1.below hSw).two
      clear hSw
      go_simp
      all_goals (with_reducible rfl)
    try simp only [Act.put, List.getElem_toArray, List.getElem_cons_succ, List.getElem_cons_zero, List.setIfInBounds_toArray, List.set_cons_zero, List.set_cons_succ]
    refine tk2 (i := 16) (v := ?_) rfl (Or.inl ⟨by rfl, ?_⟩) ?_
    rotate_left
    · intro Wq hSw
      obtain ⟨k0, k1⟩ := (HS0.out.2.1.below hSw).two
      clear hSw
      go_simp
      all_goals (with_reducible rfl)
    try simp only [Act.put, List.getElem_toArray, List.getElem_cons_succ, List.getElem_cons_zero, List.setIfInBounds_toArray, List.set_cons_zero, List.set_cons_succ]
    refine tk2 (i := 17) (v := ?_) rfl (Or.inl ⟨by rfl, ?_⟩) ?_
    rotate_left
    · intro Wq hSw
      obtain ⟨k0, k1⟩ := (HS0.out.2.2.1.below hSw).two
      clear hSw
      go_simp
      all_goals (with_reducible rfl)
    try simp only [Act.put, List.getElem_toArray, List.getElem_cons_succ, List.getElem_cons_zero, List.setIfInBounds_toArray, List.set_cons_zero, List.set_cons_succ]
    refine tk2 (i := 18) (v := ?_) rfl (Or.inl ⟨by rfl, ?_⟩) ?_
    rotate_left
    · intro Wq hSw
      obtain ⟨k0, k1⟩ := (HS0.out.2.2.2.1.below hSw).two
      clear hSw
      go_simp
      all_goals (with_reducible rfl)
    try simp only [Act.put, List.getElem_toArray, List.getElem_cons_succ, List.getElem_cons_zero, List.setIfInBounds_toArray, List.set_cons_zero, List.set_cons_succ]
    refine ry1 (i := 14) rfl (fun K hK => ?_)
    go_simp
    go_at_call 22
    (with_reducible refine (TP2.out _).mono ?_); rintro e w1 ⟨rfl, hb1⟩
    try dsimp only
    go_wp2_with fail
    refine hK.out _ _ (bl_trans hHeld hb1) (fun hHeld2 => ?_)
    clear hK K hHeld hb1
    have hHeld := hHeld2
    clear hHeld2
    try simp only [Act.put, List.getElem_toArray, List.getElem_cons_succ, List.getElem_cons_zero, List.setIfInBounds_toArray, List.set_cons_zero, List.set_cons_succ]
    refine ry1 (i := 19) rfl (fun K hK => ?_)
    go_simp
    go_at_call 22
    (with_reducible refine (CC.out _).mono ?_); rintro e w1 ⟨rfl, hb1⟩
    try dsimp only
    go_wp2_with fail
    refine hK.out _ _ (bl_trans hHeld hb1) (fun hHeld2 => ?_)
    clear hK K hHeld hb1
    have hHeld := hHeld2
    clear hHeld2
    try simp only [Act.put, List.getElem_toArray, List.getElem_cons_succ, List.getElem_cons_zero, List.setIfInBounds_toArray, List.set_cons_zero, List.set_cons_succ]
    refine tk2 (i := 20) (v := ?_) rfl (Or.inl ⟨by rfl, ?_⟩) ?_
    rotate_left
    · intro Wq hSw
      clear hSw
      go_simp
      all_goals (with_reducible rfl)
    try simp only [Act.put, List.getElem_toArray, List.getElem_cons_succ, List.getElem_cons_zero, List.setIfInBounds_toArray, List.set_cons_zero, List.set_cons_succ]
    refine tk2 (i := 21) (v := ?_) rfl (Or.inl ⟨by rfl, ?_⟩) ?_
    rotate_left
    · intro Wq hSw
      clear hSw
      go_simp
      all_goals (with_reducible rfl)
    try simp only [Act.put, List.getElem_toArray, List.getElem_cons_succ, List.getElem_cons_zero, List.setIfInBounds_toArray, List.set_cons_zero, List.set_cons_succ]
    refine tk2 (i := 22) (v := ?_) rfl (Or.inl ⟨by rfl, ?_⟩) ?_
    rotate_left
    · intro Wq hSw
      clear hSw
      go_simp
      all_goals (with_reducible rfl)
    try simp only [Act.put, List.getElem_toArray, List.getElem_cons_succ, List.getElem_cons_zero, List.setIfInBounds_toArray, List.set_cons_zero, List.set_cons_succ]
    refine tk2 (i := 23) (v := ?_) rfl (Or.inl ⟨by rfl, ?_⟩) ?_
    rotate_left
    · intro Wq hSw
      obtain ⟨k0, k1⟩ := (HS0.out.2.2.2.2.2.1.below hSw).two
      clear hSw
      go_simp
      all_goals (with_reducible rfl)
    try simp only [Act.put, List.getElem_toArray, List.getElem_cons_succ, List.getElem_cons_zero, List.setIfInBounds_toArray, List.set_cons_zero, List.set_cons_succ]
    refine tk2 (i := 24) (v := ?_) rfl (Or.inl ⟨by rfl, ?_⟩) ?_
    rotate_left
    · intro Wq hSw
      obtain ⟨k0, k1⟩ := (HS0.out.2.2.2.2.2.2.1.below hSw).two
      clear hSw
      go_simp
      all_goals (with_reducible rfl)
    try simp only [Act.put, List.getElem_toArray, List.getElem_cons_succ, List.getElem_cons_zero, List.setIfInBounds_toArray, List.set_cons_zero, List.set_cons_succ]
    refine tk2 (i := 25) (v := ?_) rfl (Or.inl ⟨by rfl, ?_⟩) ?_
    rotate_left
    · intro Wq hSw
      obtain ⟨k0, k1⟩ := (HS0.out.2.2.2.2.2.2.2.1.below hSw).two
      clear hSw
      go_simp
      all_goals (with_reducible rfl)
    try simp only [Act.put, List.getElem_toArray, List.getElem_cons_succ, List.getElem_cons_zero, List.setIfInBounds_toArray, List.set_cons_zero, List.set_cons_succ]
    refine tk2 (i := 27) (v := ?_) rfl (Or.inl ⟨by rfl, ?_⟩) ?_
    rotate_left
    · intro Wq hSw
      obtain ⟨k0, k1⟩ := (HS0.out.1.below hSw).two
      clear hSw
      go_simp
      all_goals (with_reducible rfl)
    try simp only [Act.put, List.getElem_toArray, List.getElem_cons_succ, List.getElem_cons_zero, List.setIfInBounds_toArray, List.set_cons_zero, List.set_cons_succ]
    refine tk2 (i := 28) (v := ?_) rfl (Or.inl ⟨by rfl, ?_⟩) ?_
    rotate_left
    · intro Wq hSw
      obtain ⟨k0, k1⟩ := (HS0.out.2.1.below hSw).two
      clear hSw
      go_simp
      all_goals (with_reducible rfl)
    try simp only [Act.put, List.getElem_toArray, List.getElem_cons_succ, List.getElem_cons_zero, List.setIfInBounds_toArray, List.set_cons_zero, List.set_cons_succ]
    refine tk2 (i := 29) (v := ?_) rfl (Or.inl ⟨by rfl, ?_⟩) ?_
    rotate_left
    · intro Wq hSw
      obtain ⟨k0, k1⟩ := (HS0.out.2.2.1.below hSw).two
      clear hSw
      go_simp
      all_goals (with_reducible rfl)
    try simp only [Act.put, List.getElem_toArray, List.getElem_cons_succ, List.getElem_cons_zero, List.setIfInBounds_toArray, List.set_cons_zero, List.set_cons_succ]
    refine ry1 (i := 26) rfl (fun K hK => ?_)
    go_simp
    go_at_call 24
    (with_reducible refine (TP3.out _).mono ?_); rintro e w1 ⟨rfl, hb1⟩
    try dsimp only
    go_wp2_with fail
    refine hK.out _ _ (bl_trans hHeld hb1) (fun hHeld2 => ?_)
    clear hK K hHeld hb1
    have hHeld := hHeld2
    clear hHeld2
    try simp only [Act.put, List.getElem_toArray, List.getElem_cons_succ, List.getElem_cons_zero, List.setIfInBounds_toArray, List.set_cons_zero, List.set_cons_succ]
    refine ry1 (i := 30) rfl (fun K hK => ?_)
    go_simp
    go_at_call 24
    (with_reducible refine (CD.out _).mono ?_); rintro e w1 ⟨rfl, hb1⟩
    try dsimp only
    go_wp2_with fail
    refine hK.out _ _ (bl_trans hHeld hb1) (fun hHeld2 => ?_)
    clear hK K hHeld hb1
    have hHeld := hHeld2
    clear hHeld2
    try simp only [Act.put, List.getElem_toArray, List.getElem_cons_succ, List.getElem_cons_zero, List.setIfInBounds_toArray, List.set_cons_zero, List.set_cons_succ]
    refine tk2 (i := 31) (v := ?_) rfl (Or.inl ⟨by rfl, ?_⟩) ?_
    rotate_left
    · intro Wq hSw
      clear hSw
      go_simp
      all_goals (with_reducible rfl)
    try simp only [Act.put, List.getElem_toArray, List.getElem_cons_succ, List.getElem_cons_zero, List.setIfInBounds_toArray, List.set_cons_zero, List.set_cons_succ]
    refine tk2 (i := 32) (v := ?_) rfl (Or.inl ⟨by rfl, ?_⟩) ?_
    rotate_left
    · intro Wq hSw
      clear hSw
      go_simp
      all_goals (with_reducible rfl)
    try simp only [Act.put, List.getElem_toArray, List.getElem_cons_succ, List.getElem_cons_zero, List.setIfInBounds_toArray, List.set_cons_zero, List.set_cons_succ]
    refine tk2 (i := 33) (v := ?_) rfl (Or.inl ⟨by rfl, ?_⟩) ?_
    rotate_left
    · intro Wq hSw
      clear hSw
      go_simp
      all_goals (with_reducible rfl)
    try simp only [Act.put, List.getElem_toArray, List.getElem_cons_succ, List.getElem_cons_zero, List.setIfInBounds_toArray, List.set_cons_zero, List.set_cons_succ]
    refine tk2 (i := 34) (v := ?_) rfl (Or.inl ⟨by rfl, ?_⟩) ?_
    rotate_left
    · intro Wq hSw
      obtain ⟨k0, k1⟩ := (HS0.out.2.2.2.2.2.1.below hSw).two
      clear hSw
      go_simp
      all_goals (with_reducible rfl)
    try simp only [Act.put, List.getElem_toArray, List.getElem_cons_succ, List.getElem_cons_zero, List.setIfInBounds_toArray, List.set_cons_zero, List.set_cons_succ]
    refine tk2 (i := 35) (v := ?_) rfl (Or.inl ⟨by rfl, ?_⟩) ?_
    rotate_left
    · intro Wq hSw
      obtain ⟨k0, k1⟩ := (HS0.out.2.2.2.2.2.2.1.below hSw).two
      clear hSw
      go_simp
      all_goals (with_reducible rfl)
    try simp only [Act.put, List.getElem_toArray, List.getElem_cons_succ, List.getElem_cons_zero, List.setIfInBounds_toArray, List.set_cons_zero, List.set_cons_succ]
    refine tk2 (i := 36) (v := ?_) rfl (Or.inl ⟨by rfl, ?_⟩) ?_
    rotate_left
    · intro Wq hSw
      obtain ⟨k0, k1⟩ := (HS0.out.2.2.2.2.2.2.2.1.below hSw).two
      clear hSw
      go_simp
      all_goals (with_reducible rfl)
    try simp only [Act.put, List.getElem_toArray, List.getElem_cons_succ, List.getElem_cons_zero, List.setIfInBounds_toArray, List.set_cons_zero, List.set_cons_succ]
    refine tk2 (i := 38) (v := ?_) rfl (Or.inl ⟨by rfl, ?_⟩) ?_
    rotate_left
    · intro Wq hSw
      obtain ⟨k0, k1⟩ := (HS0.out.1.below hSw).two
      clear hSw
      go_simp
      all_goals (with_reducible rfl)
    try simp only [Act.put, List.getElem_toArray, List.getElem_cons_succ, List.getElem_cons_zero, List.setIfInBounds_toArray, List.set_cons_zero, List.set_cons_succ]
    refine tk2 (i := 39) (v := ?_) rfl (Or.inl ⟨by rfl, ?_⟩) ?_
    rotate_left
    · intro Wq hSw
      obtain ⟨k0, k1⟩ := (HS0.out.2.1.below hSw).two
      clear hSw
      go_simp
      all_goals (with_reducible rfl)
    try simp only [Act.put, List.getElem_toArray, List.getElem_cons_succ, List.getElem_cons_zero, List.setIfInBounds_toArray, List.set_cons_zero, List.set_cons_succ]
    refine tk2 (i := 40) (v := ?_) rfl (Or.inl ⟨by rfl, ?_⟩) ?_
    rotate_left
    · intro Wq hSw
      obtain ⟨k0, k1⟩ := (HS0.out.2.2.1.below hSw).two
      clear hSw
      go_simp
      all_goals (with_reducible rfl)
    try simp only [Act.put, List.getElem_toArray, List.getElem_cons_succ, List.getElem_cons_zero, List.setIfInBounds_toArray, List.set_cons_zero, List.set_cons_succ]
    refine ry1 (i := 37) rfl (fun K hK => ?_)
    go_simp
    go_at_call 28
    (with_reducible refine (TP4.out _).mono ?_); rintro e w1 ⟨rfl, hb1⟩
    try dsimp only
    go_wp2_with fail
    refine hK.out _ _ (bl_trans hHeld hb1) (fun hHeld2 => ?_)
    clear hK K hHeld hb1
    have hHeld := hHeld2
    clear hHeld2
    try simp only [Act.put, List.getElem_toArray, List.getElem_cons_succ, List.getElem_cons_zero, List.setIfInBounds_toArray, List.set_cons_zero, List.set_cons_succ]
    refine ry1 (i := 41) rfl (fun K hK => ?_)
    go_simp
    go_at_call 28
    (with_reducible refine (CS.out _).mono ?_); rintro e w1 ⟨rfl, hb1⟩
    try dsimp only
    go_wp2_with fail
    refine hK.out _ _ (bl_trans hHeld hb1) (fun hHeld2 => ?_)
    clear hK K hHeld hb1
    have hHeld := hHeld2
    clear hHeld2
    try simp only [Act.put, List.getElem_toArray, List.getElem_cons_succ, List.getElem_cons_zero, List.setIfInBounds_toArray, List.set_cons_zero, List.set_cons_succ]
    refine tk2 (i := 42) (v := ?_) rfl (Or.inl ⟨by rfl, ?_⟩) ?_
    rotate_left
    · intro Wq hSw
      clear hSw
      go_simp
      all_goals (with_reducible rfl)
    try simp only [Act.put, List.getElem_toArray, List.getElem_cons_succ, List.getElem_cons_zero, List.setIfInBounds_toArray, List.set_cons_zero, List.set_cons_succ]
    refine tk2 (i := 43) (v := ?_) rfl (Or.inl ⟨by rfl, ?_⟩) ?_
    rotate_left
    · intro Wq hSw
      clear hSw
      go_simp
      all_goals (with_reducible rfl)
    try simp only [Act.put, List.getElem_toArray, List.getElem_cons_succ, List.getElem_cons_zero, List.setIfInBounds_toArray, List.set_cons_zero, List.set_cons_succ]
    refine wpAnyH_done (by kernel_rfl) ?_ _
    go_wp2_with fail
    go_meet
    case rel => exact ⟨rfl, ⟨HS0.out.1.below hHeld, HS0.out.2.1.below hHeld, HS0.out.2.2.1.below hHeld, HS0.out.2.2.2.1.below hHeld, HS0.out.2.2.2.2.1.below hHeld, HS0.out.2.2.2.2.2.1.below hHeld, HS0.out.2.2.2.2.2.2.1.below hHeld, HS0.out.2.2.2.2.2.2.2.1.below hHeld, HS0.out.2.2.2.2.2.2.2.2.1.below hHeld, HS0.out.2.2.2.2.2.2.2.2.2.below hHeld⟩⟩
  case rest =>
  obtain ⟨rfl, hS0⟩ := hcut
  clear HS0 TP1 TP2 TP3 TP4
  have HS0 := Lib.hid hS0
  clear hS0
  have HS9 : Hid ((fun W => Var W (w.heap.size) [.int .i64 a.x, .int .i64 a.y] ∧ Var W (w.heap.size + 1) [.int .i64 b.x, .int .i64 b.y] ∧ Var W (w.heap.size + 1 + 1) [.int .i64 c.x, .int .i64 c.y] ∧ Var W (w.heap.size + 1 + 1 + 1) [.int .i64 d.x, .int .i64 d.y] ∧ Var W (w.heap.size + 1 + 1 + 1 + 1) [.int .i64 t.x, .int .i64 t.y] ∧ Grew w 5 W) _) := ⟨HS0.out.1, HS0.out.2.1, HS0.out.2.2.1, HS0.out.2.2.2.1, HS0.out.2.2.2.2.1, HS0.out.2.2.2.2.2.2.2.2.2⟩
  clear HS0
  have HS0 := HS9
  clear HS9
  rename_i K0 aK0 K aK
  refine aK _ _ ?_
  clear aK K
  repeat revert ‹Value›
  revert HS0
  revert n2
  revert n1
  revert e5
  revert e4
  revert e3
  revert e2
  revert e1
  revert CS
  revert CD
  revert CC
  revert CO
  revert NP4
  revert NP3
  revert NP2
  revert NP1
  revert N4
  revert N3
  revert N2
  revert N1
  revert wc
  revert aK0
  revert K0
  revert g18
  revert g17
  revert g16
  revert g15
  revert g14
  revert g13
  revert g12
  revert g11
  revert zs
  revert zd
  revert zc
  revert zo
  revert s2
  revert r2
  revert q2
  revert p2
  exact hP.out⟩
end Go.Proofs.Ytojfggnimmaemaa
