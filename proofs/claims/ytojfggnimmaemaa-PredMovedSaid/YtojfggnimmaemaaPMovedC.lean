/-
  The walk of the law PredMoved, part 2.
-/
import Derived.Test.YtojfggnimmaemaaPMovedA
namespace Go.Proofs.Ytojfggnimmaemaa
open Go.RowKit

set_option maxHeartbeats 16000000 in
set_option maxRecDepth 100000 in
noncomputable def pmC (a b c d t : Pt) (w : World) : {P : Prop // Tail P → (pmB a b c d t w).val} := ⟨_, fun hP => by
  intro p q r s p1 q1 r1 s1 p2 q2 r2 s2 zo zc zd zs g11 g12 g13 g14 wc T1 T2 T3 T4 N1 N2 N3 N4 TP1 TP2 TP3 TP4 NP1 NP2 NP3 NP4 MP CO CC CD CS e1 e2 e3 e4 e5 n1 n2 HS0
  intros
  go_upto_region 7 with (fail)
  go_cut [125] (fun tv W => tv = .bool false ∧ (fun W => Var W (w.heap.size) [.int .i64 a.x, .int .i64 a.y] ∧ Var W (w.heap.size + 1) [.int .i64 b.x, .int .i64 b.y] ∧ Var W (w.heap.size + 1 + 1) [.int .i64 c.x, .int .i64 c.y] ∧ Var W (w.heap.size + 1 + 1 + 1) [.int .i64 d.x, .int .i64 d.y] ∧ Var W (w.heap.size + 1 + 1 + 1 + 1) [.int .i64 t.x, .int .i64 t.y] ∧ Var W (g11) [.int .i64 p.x, .int .i64 p.y] ∧ Var W (g12) [.int .i64 q.x, .int .i64 q.y] ∧ Var W (g13) [.int .i64 r.x, .int .i64 r.y] ∧ Var W (g14) [.int .i64 s.x, .int .i64 s.y] ∧ Grew w 5 W) W)
  case first =>
    clear T1 T2 T3 T4 N1 N2 N3 N4 TP1 TP2 TP3 TP4 NP1 NP2 NP3 NP4
    obtain ⟨rf, hf⟩ : ∃ x, (fitB p && fitB q && fitB r && fitB s) = x := ⟨_, rfl⟩
    cases rf
    · have HF := Lib.hid hf
      clear hf MP
      refine wp_region_bel (by kernel_rfl) (fun hHeld => ?_)
      revert hHeld
      generalize World.drew _ = W1
      intro hHeld
      refine tk2 (i := 0) (v := ?_) rfl (Or.inl ⟨by rfl, ?_⟩) ?_
      rotate_left
      · intro Wq hSw
        obtain ⟨k0, k1⟩ := (HS0.out.2.2.2.2.2.1.below hSw).two
        clear hSw
        go_simp
        all_goals (with_reducible rfl)
      try simp only [Act.put, List.getElem_toArray, List.getElem_cons_zero, List.setIfInBounds_toArray, List.set_cons_zero, List.set_cons_succ]
      refine tk2 (i := 1) (v := ?_) rfl (Or.inl ⟨by rfl, ?_⟩) ?_
      rotate_left
      · intro Wq hSw
        obtain ⟨k0, k1⟩ := (HS0.out.2.2.2.2.2.2.1.below hSw).two
        clear hSw
        go_simp
        all_goals (with_reducible rfl)
      try simp only [Act.put, List.getElem_toArray, List.getElem_cons_succ, List.getElem_cons_zero, List.setIfInBounds_toArray, List.set_cons_zero, List.set_cons_succ]
      refine tk2 (i := 2) (v := ?_) rfl (Or.inl ⟨by rfl, ?_⟩) ?_
      rotate_left
      · intro Wq hSw
        obtain ⟨k0, k1⟩ := (HS0.out.2.2.2.2.2.2.2.1.below hSw).two
        clear hSw
        go_simp
        all_goals (with_reducible rfl)
      try simp only [Act.put, List.getElem_toArray, List.getElem_cons_succ, List.getElem_cons_zero, List.setIfInBounds_toArray, List.set_cons_zero, List.set_cons_succ]
      refine tk2 (i := 3) (v := ?_) rfl (Or.inl ⟨by rfl, ?_⟩) ?_
      rotate_left
      · intro Wq hSw
        obtain ⟨k0, k1⟩ := (HS0.out.2.2.2.2.2.2.2.2.1.below hSw).two
        clear hSw
        go_simp
        all_goals (with_reducible rfl)
      try simp only [Act.put, List.getElem_toArray, List.getElem_cons_succ, List.getElem_cons_zero, List.setIfInBounds_toArray, List.set_cons_zero, List.set_cons_succ]
      refine ry1 (i := 4) rfl (fun K hK => ?_)
      go_simp
      refine hK.out _ _ (bel_one hHeld _) (fun hHeld2 => ?_)
      have HL := bel_L hHeld (fun W => pts4 W p q r s 23)
      clear hK K hHeld
      have hHeld := hHeld2
      clear hHeld2
      try simp only [Act.put, List.getElem_toArray, List.getElem_cons_succ, List.getElem_cons_zero, List.setIfInBounds_toArray, List.set_cons_zero, List.set_cons_succ]
      revert HL
      revert hHeld
      generalize World.alloc _ _ = W2
      intro hHeld HL
      refine ry1 (i := 5) rfl (fun K hK => ?_)
      go_simp
      go_at_call 42
      (with_reducible refine (fits4_at _ _ _ p q r s _ HF.out HL.out).mono ?_); rintro e w1 ⟨rfl, hb1⟩
      try dsimp only
      go_wp2_with fail
      refine hK.out _ _ (bl_trans hHeld hb1) (fun hHeld2 => ?_)
      clear hK K hHeld hb1
      have hHeld := hHeld2
      clear hHeld2
      try simp only [Act.put, List.getElem_toArray, List.getElem_cons_succ, List.getElem_cons_zero, List.setIfInBounds_toArray, List.set_cons_zero, List.set_cons_succ]
      refine tk2 (i := 6) (v := ?_) rfl (Or.inl ⟨by rfl, ?_⟩) ?_
      rotate_left
      · intro Wq hSw
        clear hSw
        go_simp
        all_goals (with_reducible rfl)
      try simp only [Act.put, List.getElem_toArray, List.getElem_cons_succ, List.getElem_cons_zero, List.setIfInBounds_toArray, List.set_cons_zero, List.set_cons_succ]
      refine tk2 (i := 7) (v := _) rfl (Or.inr ⟨by rfl, rfl⟩) ?_
      try simp only [Act.put, List.getElem_toArray, List.getElem_cons_succ, List.getElem_cons_zero, List.setIfInBounds_toArray, List.set_cons_zero, List.set_cons_succ]
      refine tk2 (i := 8) (v := _) rfl (Or.inr ⟨by rfl, rfl⟩) ?_
      try simp only [Act.put, List.getElem_toArray, List.getElem_cons_succ, List.getElem_cons_zero, List.setIfInBounds_toArray, List.set_cons_zero, List.set_cons_succ]
      refine tk2 (i := 9) (v := _) rfl (Or.inr ⟨by rfl, rfl⟩) ?_
      try simp only [Act.put, List.getElem_toArray, List.getElem_cons_succ, List.getElem_cons_zero, List.setIfInBounds_toArray, List.set_cons_zero, List.set_cons_succ]
      refine tk2 (i := 11) (v := _) rfl (Or.inr ⟨by rfl, rfl⟩) ?_
      try simp only [Act.put, List.getElem_toArray, List.getElem_cons_succ, List.getElem_cons_zero, List.setIfInBounds_toArray, List.set_cons_zero, List.set_cons_succ]
      refine tk2 (i := 12) (v := _) rfl (Or.inr ⟨by rfl, rfl⟩) ?_
      try simp only [Act.put, List.getElem_toArray, List.getElem_cons_succ, List.getElem_cons_zero, List.setIfInBounds_toArray, List.set_cons_zero, List.set_cons_succ]
      refine tk2 (i := 13) (v := _) rfl (Or.inr ⟨by rfl, rfl⟩) ?_
      try simp only [Act.put, List.getElem_toArray, List.getElem_cons_succ, List.getElem_cons_zero, List.setIfInBounds_toArray, List.set_cons_zero, List.set_cons_succ]
      refine tk2 (i := 10) (v := _) rfl (Or.inr ⟨by rfl, rfl⟩) ?_
      try simp only [Act.put, List.getElem_toArray, List.getElem_cons_succ, List.getElem_cons_zero, List.setIfInBounds_toArray, List.set_cons_zero, List.set_cons_succ]
      refine tk2 (i := 14) (v := _) rfl (Or.inr ⟨by rfl, rfl⟩) ?_
      try simp only [Act.put, List.getElem_toArray, List.getElem_cons_succ, List.getElem_cons_zero, List.setIfInBounds_toArray, List.set_cons_zero, List.set_cons_succ]
      refine tk2 (i := 15) (v := _) rfl (Or.inr ⟨by rfl, rfl⟩) ?_
      try simp only [Act.put, List.getElem_toArray, List.getElem_cons_succ, List.getElem_cons_zero, List.setIfInBounds_toArray, List.set_cons_zero, List.set_cons_succ]
      refine tk2 (i := 16) (v := _) rfl (Or.inr ⟨by rfl, rfl⟩) ?_
      try simp only [Act.put, List.getElem_toArray, List.getElem_cons_succ, List.getElem_cons_zero, List.setIfInBounds_toArray, List.set_cons_zero, List.set_cons_succ]
      refine tk2 (i := 17) (v := _) rfl (Or.inr ⟨by rfl, rfl⟩) ?_
      try simp only [Act.put, List.getElem_toArray, List.getElem_cons_succ, List.getElem_cons_zero, List.setIfInBounds_toArray, List.set_cons_zero, List.set_cons_succ]
      refine tk2 (i := 18) (v := _) rfl (Or.inr ⟨by rfl, rfl⟩) ?_
      try simp only [Act.put, List.getElem_toArray, List.getElem_cons_succ, List.getElem_cons_zero, List.setIfInBounds_toArray, List.set_cons_zero, List.set_cons_succ]
      refine tk2 (i := 19) (v := _) rfl (Or.inr ⟨by rfl, rfl⟩) ?_
      try simp only [Act.put, List.getElem_toArray, List.getElem_cons_succ, List.getElem_cons_zero, List.setIfInBounds_toArray, List.set_cons_zero, List.set_cons_succ]
      refine tk2 (i := 20) (v := _) rfl (Or.inr ⟨by rfl, rfl⟩) ?_
      try simp only [Act.put, List.getElem_toArray, List.getElem_cons_succ, List.getElem_cons_zero, List.setIfInBounds_toArray, List.set_cons_zero, List.set_cons_succ]
      refine tk2 (i := 22) (v := _) rfl (Or.inr ⟨by rfl, rfl⟩) ?_
      try simp only [Act.put, List.getElem_toArray, List.getElem_cons_succ, List.getElem_cons_zero, List.setIfInBounds_toArray, List.set_cons_zero, List.set_cons_succ]
      refine tk2 (i := 23) (v := _) rfl (Or.inr ⟨by rfl, rfl⟩) ?_
      try simp only [Act.put, List.getElem_toArray, List.getElem_cons_succ, List.getElem_cons_zero, List.setIfInBounds_toArray, List.set_cons_zero, List.set_cons_succ]
      refine tk2 (i := 24) (v := _) rfl (Or.inr ⟨by rfl, rfl⟩) ?_
      try simp only [Act.put, List.getElem_toArray, List.getElem_cons_succ, List.getElem_cons_zero, List.setIfInBounds_toArray, List.set_cons_zero, List.set_cons_succ]
      refine tk2 (i := 25) (v := _) rfl (Or.inr ⟨by rfl, rfl⟩) ?_
      try simp only [Act.put, List.getElem_toArray, List.getElem_cons_succ, List.getElem_cons_zero, List.setIfInBounds_toArray, List.set_cons_zero, List.set_cons_succ]
      refine tk2 (i := 21) (v := _) rfl (Or.inr ⟨by rfl, rfl⟩) ?_
      try simp only [Act.put, List.getElem_toArray, List.getElem_cons_succ, List.getElem_cons_zero, List.setIfInBounds_toArray, List.set_cons_zero, List.set_cons_succ]
      refine tk2 (i := 26) (v := _) rfl (Or.inr ⟨by rfl, rfl⟩) ?_
      try simp only [Act.put, List.getElem_toArray, List.getElem_cons_succ, List.getElem_cons_zero, List.setIfInBounds_toArray, List.set_cons_zero, List.set_cons_succ]
      refine tk2 (i := 27) (v := _) rfl (Or.inr ⟨by rfl, rfl⟩) ?_
      try simp only [Act.put, List.getElem_toArray, List.getElem_cons_succ, List.getElem_cons_zero, List.setIfInBounds_toArray, List.set_cons_zero, List.set_cons_succ]
      refine tk2 (i := 28) (v := _) rfl (Or.inr ⟨by rfl, rfl⟩) ?_
      try simp only [Act.put, List.getElem_toArray, List.getElem_cons_succ, List.getElem_cons_zero, List.setIfInBounds_toArray, List.set_cons_zero, List.set_cons_succ]
      refine tk2 (i := 29) (v := _) rfl (Or.inr ⟨by rfl, rfl⟩) ?_
      try simp only [Act.put, List.getElem_toArray, List.getElem_cons_succ, List.getElem_cons_zero, List.setIfInBounds_toArray, List.set_cons_zero, List.set_cons_succ]
      refine tk2 (i := 30) (v := _) rfl (Or.inr ⟨by rfl, rfl⟩) ?_
      try simp only [Act.put, List.getElem_toArray, List.getElem_cons_succ, List.getElem_cons_zero, List.setIfInBounds_toArray, List.set_cons_zero, List.set_cons_succ]
      refine tk2 (i := 31) (v := _) rfl (Or.inr ⟨by rfl, rfl⟩) ?_
      try simp only [Act.put, List.getElem_toArray, List.getElem_cons_succ, List.getElem_cons_zero, List.setIfInBounds_toArray, List.set_cons_zero, List.set_cons_succ]
      refine tk2 (i := 32) (v := _) rfl (Or.inr ⟨by rfl, rfl⟩) ?_
      try simp only [Act.put, List.getElem_toArray, List.getElem_cons_succ, List.getElem_cons_zero, List.setIfInBounds_toArray, List.set_cons_zero, List.set_cons_succ]
      refine tk2 (i := 34) (v := _) rfl (Or.inr ⟨by rfl, rfl⟩) ?_
      try simp only [Act.put, List.getElem_toArray, List.getElem_cons_succ, List.getElem_cons_zero, List.setIfInBounds_toArray, List.set_cons_zero, List.set_cons_succ]
      refine tk2 (i := 35) (v := _) rfl (Or.inr ⟨by rfl, rfl⟩) ?_
      try simp only [Act.put, List.getElem_toArray, List.getElem_cons_succ, List.getElem_cons_zero, List.setIfInBounds_toArray, List.set_cons_zero, List.set_cons_succ]
      refine tk2 (i := 36) (v := _) rfl (Or.inr ⟨by rfl, rfl⟩) ?_
      try simp only [Act.put, List.getElem_toArray, List.getElem_cons_succ, List.getElem_cons_zero, List.setIfInBounds_toArray, List.set_cons_zero, List.set_cons_succ]
      refine tk2 (i := 33) (v := _) rfl (Or.inr ⟨by rfl, rfl⟩) ?_
      try simp only [Act.put, List.getElem_toArray, List.getElem_cons_succ, List.getElem_cons_zero, List.setIfInBounds_toArray, List.set_cons_zero, List.set_cons_succ]
      refine tk2 (i := 37) (v := _) rfl (Or.inr ⟨by rfl, rfl⟩) ?_
      try simp only [Act.put, List.getElem_toArray, List.getElem_cons_succ, List.getElem_cons_zero, List.setIfInBounds_toArray, List.set_cons_zero, List.set_cons_succ]
      refine tk2 (i := 38) (v := _) rfl (Or.inr ⟨by rfl, rfl⟩) ?_
      try simp only [Act.put, List.getElem_toArray, List.getElem_cons_succ, List.getElem_cons_zero, List.setIfInBounds_toArray, List.set_cons_zero, List.set_cons_succ]
      refine tk2 (i := 39) (v := _) rfl (Or.inr ⟨by rfl, rfl⟩) ?_
      try simp only [Act.put, List.getElem_toArray, List.getElem_cons_succ, List.getElem_cons_zero, List.setIfInBounds_toArray, List.set_cons_zero, List.set_cons_succ]
      refine tk2 (i := 40) (v := _) rfl (Or.inr ⟨by rfl, rfl⟩) ?_
      try simp only [Act.put, List.getElem_toArray, List.getElem_cons_succ, List.getElem_cons_zero, List.setIfInBounds_toArray, List.set_cons_zero, List.set_cons_succ]
      refine tk2 (i := 41) (v := _) rfl (Or.inr ⟨by rfl, rfl⟩) ?_
      try simp only [Act.put, List.getElem_toArray, List.getElem_cons_succ, List.getElem_cons_zero, List.setIfInBounds_toArray, List.set_cons_zero, List.set_cons_succ]
      refine tk2 (i := 42) (v := _) rfl (Or.inr ⟨by rfl, rfl⟩) ?_
      try simp only [Act.put, List.getElem_toArray, List.getElem_cons_succ, List.getElem_cons_zero, List.setIfInBounds_toArray, List.set_cons_zero, List.set_cons_succ]
      refine tk2 (i := 43) (v := _) rfl (Or.inr ⟨by rfl, rfl⟩) ?_
      try simp only [Act.put, List.getElem_toArray, List.getElem_cons_succ, List.getElem_cons_zero, List.setIfInBounds_toArray, List.set_cons_zero, List.set_cons_succ]
      refine tk2 (i := 45) (v := _) rfl (Or.inr ⟨by rfl, rfl⟩) ?_
      try simp only [Act.put, List.getElem_toArray, List.getElem_cons_succ, List.getElem_cons_zero, List.setIfInBounds_toArray, List.set_cons_zero, List.set_cons_succ]
      refine tk2 (i := 46) (v := _) rfl (Or.inr ⟨by rfl, rfl⟩) ?_
      try simp only [Act.put, List.getElem_toArray, List.getElem_cons_succ, List.getElem_cons_zero, List.setIfInBounds_toArray, List.set_cons_zero, List.set_cons_succ]
      refine tk2 (i := 47) (v := _) rfl (Or.inr ⟨by rfl, rfl⟩) ?_
      try simp only [Act.put, List.getElem_toArray, List.getElem_cons_succ, List.getElem_cons_zero, List.setIfInBounds_toArray, List.set_cons_zero, List.set_cons_succ]
      refine tk2 (i := 44) (v := _) rfl (Or.inr ⟨by rfl, rfl⟩) ?_
      try simp only [Act.put, List.getElem_toArray, List.getElem_cons_succ, List.getElem_cons_zero, List.setIfInBounds_toArray, List.set_cons_zero, List.set_cons_succ]
      refine tk2 (i := 48) (v := _) rfl (Or.inr ⟨by rfl, rfl⟩) ?_
      try simp only [Act.put, List.getElem_toArray, List.getElem_cons_succ, List.getElem_cons_zero, List.setIfInBounds_toArray, List.set_cons_zero, List.set_cons_succ]
      refine tk2 (i := 49) (v := _) rfl (Or.inr ⟨by rfl, rfl⟩) ?_
      try simp only [Act.put, List.getElem_toArray, List.getElem_cons_succ, List.getElem_cons_zero, List.setIfInBounds_toArray, List.set_cons_zero, List.set_cons_succ]
      refine tk2 (i := 50) (v := _) rfl (Or.inr ⟨by rfl, rfl⟩) ?_
      try simp only [Act.put, List.getElem_toArray, List.getElem_cons_succ, List.getElem_cons_zero, List.setIfInBounds_toArray, List.set_cons_zero, List.set_cons_succ]
      refine tk2 (i := 51) (v := ?_) rfl (Or.inl ⟨by rfl, ?_⟩) ?_
      rotate_left
      · intro Wq hSw
        clear hSw
        go_simp
        all_goals (with_reducible rfl)
      try simp only [Act.put, List.getElem_toArray, List.getElem_cons_succ, List.getElem_cons_zero, List.setIfInBounds_toArray, List.set_cons_zero, List.set_cons_succ]
      refine wpAnyH_done (by kernel_rfl) ?_ _
      go_wp2_with fail
      go_meet
      case rel => exact ⟨rfl, ⟨HS0.out.1.below hHeld, HS0.out.2.1.below hHeld, HS0.out.2.2.1.below hHeld, HS0.out.2.2.2.1.below hHeld, HS0.out.2.2.2.2.1.below hHeld, HS0.out.2.2.2.2.2.1.below hHeld, HS0.out.2.2.2.2.2.2.1.below hHeld, HS0.out.2.2.2.2.2.2.2.1.below hHeld, HS0.out.2.2.2.2.2.2.2.2.1.below hHeld, HS0.out.2.2.2.2.2.2.2.2.2.below hHeld⟩⟩
    · obtain ⟨m1, m2, m3, m4⟩ := MP.out hf
      have HF := Lib.hid hf
      have MQ1 := Lib.hid m1
      have MQ2 := Lib.hid m2
      have MQ3 := Lib.hid m3
      have MQ4 := Lib.hid m4
      clear hf MP m1 m2 m3 m4
      refine wp_region_bel (by kernel_rfl) (fun hHeld => ?_)
      revert hHeld
      generalize World.drew _ = W1
      intro hHeld
      refine tk2 (i := 0) (v := ?_) rfl (Or.inl ⟨by rfl, ?_⟩) ?_
      rotate_left
      · intro Wq hSw
        obtain ⟨k0, k1⟩ := (HS0.out.2.2.2.2.2.1.below hSw).two
        clear hSw
        go_simp
        all_goals (with_reducible rfl)
      try simp only [Act.put, List.getElem_toArray, List.getElem_cons_zero, List.setIfInBounds_toArray, List.set_cons_zero, List.set_cons_succ]
      refine tk2 (i := 1) (v := ?_) rfl (Or.inl ⟨by rfl, ?_⟩) ?_
      rotate_left
      · intro Wq hSw
        obtain ⟨k0, k1⟩ := (HS0.out.2.2.2.2.2.2.1.below hSw).two
        clear hSw
        go_simp
        all_goals (with_reducible rfl)
      try simp only [Act.put, List.getElem_toArray, List.getElem_cons_succ, List.getElem_cons_zero, List.setIfInBounds_toArray, List.set_cons_zero, List.set_cons_succ]
      refine tk2 (i := 2) (v := ?_) rfl (Or.inl ⟨by rfl, ?_⟩) ?_
      rotate_left
      · intro Wq hSw
        obtain ⟨k0, k1⟩ := (HS0.out.2.2.2.2.2.2.2.1.below hSw).two
        clear hSw
        go_simp
        all_goals (with_reducible rfl)
      try simp only [Act.put, List.getElem_toArray, List.getElem_cons_succ, List.getElem_cons_zero, List.setIfInBounds_toArray, List.set_cons_zero, List.set_cons_succ]
      refine tk2 (i := 3) (v := ?_) rfl (Or.inl ⟨by rfl, ?_⟩) ?_
      rotate_left
      · intro Wq hSw
        obtain ⟨k0, k1⟩ := (HS0.out.2.2.2.2.2.2.2.2.1.below hSw).two
        clear hSw
        go_simp
        all_goals (with_reducible rfl)
      try simp only [Act.put, List.getElem_toArray, List.getElem_cons_succ, List.getElem_cons_zero, List.setIfInBounds_toArray, List.set_cons_zero, List.set_cons_succ]
      refine ry1 (i := 4) rfl (fun K hK => ?_)
      go_simp
      refine hK.out _ _ (bel_one hHeld _) (fun hHeld2 => ?_)
      have HL := bel_L hHeld (fun W => pts4 W p q r s 23)
      clear hK K hHeld
      have hHeld := hHeld2
      clear hHeld2
      try simp only [Act.put, List.getElem_toArray, List.getElem_cons_succ, List.getElem_cons_zero, List.setIfInBounds_toArray, List.set_cons_zero, List.set_cons_succ]
      revert HL
      revert hHeld
      generalize World.alloc _ _ = W2
      intro hHeld HL
      refine ry1 (i := 5) rfl (fun K hK => ?_)
      go_simp
      go_at_call 42
      (with_reducible refine (fits4_at _ _ _ p q r s _ HF.out HL.out).mono ?_); rintro e w1 ⟨rfl, hb1⟩
      try dsimp only
      go_wp2_with fail
      refine hK.out _ _ (bl_trans hHeld hb1) (fun hHeld2 => ?_)
      clear hK K hHeld hb1
      have hHeld := hHeld2
      clear hHeld2
      try simp only [Act.put, List.getElem_toArray, List.getElem_cons_succ, List.getElem_cons_zero, List.setIfInBounds_toArray, List.set_cons_zero, List.set_cons_succ]
      refine tk2 (i := 6) (v := ?_) rfl (Or.inl ⟨by rfl, ?_⟩) ?_
      rotate_left
      · intro Wq hSw
        clear hSw
        go_simp
        all_goals (with_reducible rfl)
      try simp only [Act.put, List.getElem_toArray, List.getElem_cons_succ, List.getElem_cons_zero, List.setIfInBounds_toArray, List.set_cons_zero, List.set_cons_succ]
      refine tk2 (i := 7) (v := ?_) rfl (Or.inl ⟨by rfl, ?_⟩) ?_
      rotate_left
      · intro Wq hSw
        obtain ⟨k0, k1⟩ := (HS0.out.2.2.2.2.2.1.below hSw).two
        clear hSw
        go_simp
        all_goals (with_reducible rfl)
      try simp only [Act.put, List.getElem_toArray, List.getElem_cons_succ, List.getElem_cons_zero, List.setIfInBounds_toArray, List.set_cons_zero, List.set_cons_succ]
      refine tk2 (i := 8) (v := ?_) rfl (Or.inl ⟨by rfl, ?_⟩) ?_
      rotate_left
      · intro Wq hSw
        obtain ⟨k0, k1⟩ := (HS0.out.2.2.2.2.2.2.1.below hSw).two
        clear hSw
        go_simp
        all_goals (with_reducible rfl)
      try simp only [Act.put, List.getElem_toArray, List.getElem_cons_succ, List.getElem_cons_zero, List.setIfInBounds_toArray, List.set_cons_zero, List.set_cons_succ]
      refine tk2 (i := 9) (v := ?_) rfl (Or.inl ⟨by rfl, ?_⟩) ?_
      rotate_left
      · intro Wq hSw
        obtain ⟨k0, k1⟩ := (HS0.out.2.2.2.2.2.2.2.1.below hSw).two
        clear hSw
        go_simp
        all_goals (with_reducible rfl)
      try simp only [Act.put, List.getElem_toArray, List.getElem_cons_succ, List.getElem_cons_zero, List.setIfInBounds_toArray, List.set_cons_zero, List.set_cons_succ]
      refine tk2 (i := 11) (v := ?_) rfl (Or.inl ⟨by rfl, ?_⟩) ?_
      rotate_left
      · intro Wq hSw
        obtain ⟨k0, k1⟩ := (HS0.out.1.below hSw).two
        clear hSw
        go_simp
        all_goals (with_reducible rfl)
      try simp only [Act.put, List.getElem_toArray, List.getElem_cons_succ, List.getElem_cons_zero, List.setIfInBounds_toArray, List.set_cons_zero, List.set_cons_succ]
      refine tk2 (i := 12) (v := ?_) rfl (Or.inl ⟨by rfl, ?_⟩) ?_
      rotate_left
      · intro Wq hSw
        obtain ⟨k0, k1⟩ := (HS0.out.2.1.below hSw).two
        clear hSw
        go_simp
        all_goals (with_reducible rfl)
      try simp only [Act.put, List.getElem_toArray, List.getElem_cons_succ, List.getElem_cons_zero, List.setIfInBounds_toArray, List.set_cons_zero, List.set_cons_succ]
      refine tk2 (i := 13) (v := ?_) rfl (Or.inl ⟨by rfl, ?_⟩) ?_
      rotate_left
      · intro Wq hSw
        obtain ⟨k0, k1⟩ := (HS0.out.2.2.1.below hSw).two
        clear hSw
        go_simp
        all_goals (with_reducible rfl)
      try simp only [Act.put, List.getElem_toArray, List.getElem_cons_succ, List.getElem_cons_zero, List.setIfInBounds_toArray, List.set_cons_zero, List.set_cons_succ]
      refine ry1 (i := 10) rfl (fun K hK => ?_)
      go_simp
      go_at_call 19
      (with_reducible refine (MQ1.out _).mono ?_); rintro e w1 ⟨rfl, hb1⟩
      try dsimp only
      go_wp2_with fail
      refine hK.out _ _ (bl_trans hHeld hb1) (fun hHeld2 => ?_)
      clear hK K hHeld hb1
      have hHeld := hHeld2
      clear hHeld2
      try simp only [Act.put, List.getElem_toArray, List.getElem_cons_succ, List.getElem_cons_zero, List.setIfInBounds_toArray, List.set_cons_zero, List.set_cons_succ]
      refine ry1 (i := 14) rfl (fun K hK => ?_)
      go_simp
      go_at_call 19
      (with_reducible refine (CO.out _).mono ?_); rintro e w1 ⟨rfl, hb1⟩
      try dsimp only
      go_wp2_with fail
      refine hK.out _ _ (bl_trans hHeld hb1) (fun hHeld2 => ?_)
      clear hK K hHeld hb1
      have hHeld := hHeld2
      clear hHeld2
      try simp only [Act.put, List.getElem_toArray, List.getElem_cons_succ, List.getElem_cons_zero, List.setIfInBounds_toArray, List.set_cons_zero, List.set_cons_succ]
      refine tk2 (i := 15) (v := ?_) rfl (Or.inl ⟨by rfl, ?_⟩) ?_
      rotate_left
      · intro Wq hSw
        clear hSw
        go_simp
        all_goals (with_reducible rfl)
      try simp only [Act.put, List.getElem_toArray, List.getElem_cons_succ, List.getElem_cons_zero, List.setIfInBounds_toArray, List.set_cons_zero, List.set_cons_succ]
      refine tk2 (i := 16) (v := ?_) rfl (Or.inl ⟨by rfl, ?_⟩) ?_
      rotate_left
      · intro Wq hSw
        clear hSw
        go_simp
        all_goals (with_reducible rfl)
      try simp only [Act.put, List.getElem_toArray, List.getElem_cons_succ, List.getElem_cons_zero, List.setIfInBounds_toArray, List.set_cons_zero, List.set_cons_succ]
      refine tk2 (i := 17) (v := ?_) rfl (Or.inl ⟨by rfl, ?_⟩) ?_
      rotate_left
      · intro Wq hSw
        obtain ⟨k0, k1⟩ := (HS0.out.2.2.2.2.2.1.below hSw).two
        clear hSw
        go_simp
        all_goals (with_reducible rfl)
      try simp only [Act.put, List.getElem_toArray, List.getElem_cons_succ, List.getElem_cons_zero, List.setIfInBounds_toArray, List.set_cons_zero, List.set_cons_succ]
      refine tk2 (i := 18) (v := ?_) rfl (Or.inl ⟨by rfl, ?_⟩) ?_
      rotate_left
      · intro Wq hSw
        obtain ⟨k0, k1⟩ := (HS0.out.2.2.2.2.2.2.1.below hSw).two
        clear hSw
        go_simp
        all_goals (with_reducible rfl)
      try simp only [Act.put, List.getElem_toArray, List.getElem_cons_succ, List.getElem_cons_zero, List.setIfInBounds_toArray, List.set_cons_zero, List.set_cons_succ]
      refine tk2 (i := 19) (v := ?_) rfl (Or.inl ⟨by rfl, ?_⟩) ?_
      rotate_left
      · intro Wq hSw
        obtain ⟨k0, k1⟩ := (HS0.out.2.2.2.2.2.2.2.1.below hSw).two
        clear hSw
        go_simp
        all_goals (with_reducible rfl)
      try simp only [Act.put, List.getElem_toArray, List.getElem_cons_succ, List.getElem_cons_zero, List.setIfInBounds_toArray, List.set_cons_zero, List.set_cons_succ]
      refine tk2 (i := 20) (v := ?_) rfl (Or.inl ⟨by rfl, ?_⟩) ?_
      rotate_left
      · intro Wq hSw
        obtain ⟨k0, k1⟩ := (HS0.out.2.2.2.2.2.2.2.2.1.below hSw).two
        clear hSw
        go_simp
        all_goals (with_reducible rfl)
      try simp only [Act.put, List.getElem_toArray, List.getElem_cons_succ, List.getElem_cons_zero, List.setIfInBounds_toArray, List.set_cons_zero, List.set_cons_succ]
      refine tk2 (i := 22) (v := ?_) rfl (Or.inl ⟨by rfl, ?_⟩) ?_
      rotate_left
      · intro Wq hSw
        obtain ⟨k0, k1⟩ := (HS0.out.1.below hSw).two
        clear hSw
        go_simp
        all_goals (with_reducible rfl)
      try simp only [Act.put, List.getElem_toArray, List.getElem_cons_succ, List.getElem_cons_zero, List.setIfInBounds_toArray, List.set_cons_zero, List.set_cons_succ]
      refine tk2 (i := 23) (v := ?_) rfl (Or.inl ⟨by rfl, ?_⟩) ?_
      rotate_left
      · intro Wq hSw
        obtain ⟨k0, k1⟩ := (HS0.out.2.1.below hSw).two
        clear hSw
        go_simp
        all_goals (with_reducible rfl)
      try simp only [Act.put, List.getElem_toArray, List.getElem_cons_succ, List.getElem_cons_zero, List.setIfInBounds_toArray, List.set_cons_zero, List.set_cons_succ]
      refine tk2 (i := 24) (v := ?_) rfl (Or.inl ⟨by rfl, ?_⟩) ?_
      rotate_left
      · intro Wq hSw
        obtain ⟨k0, k1⟩ := (HS0.out.2.2.1.below hSw).two
        clear hSw
        go_simp
        all_goals (with_reducible rfl)
      try simp only [Act.put, List.getElem_toArray, List.getElem_cons_succ, List.getElem_cons_zero, List.setIfInBounds_toArray, List.set_cons_zero, List.set_cons_succ]
      refine tk2 (i := 25) (v := ?_) rfl (Or.inl ⟨by rfl, ?_⟩) ?_
      rotate_left
      · intro Wq hSw
        obtain ⟨k0, k1⟩ := (HS0.out.2.2.2.1.below hSw).two
        clear hSw
        go_simp
        all_goals (with_reducible rfl)
      try simp only [Act.put, List.getElem_toArray, List.getElem_cons_succ, List.getElem_cons_zero, List.setIfInBounds_toArray, List.set_cons_zero, List.set_cons_succ]
      refine ry1 (i := 21) rfl (fun K hK => ?_)
      go_simp
      go_at_call 22
      (with_reducible refine (MQ2.out _).mono ?_); rintro e w1 ⟨rfl, hb1⟩
      try dsimp only
      go_wp2_with fail
      refine hK.out _ _ (bl_trans hHeld hb1) (fun hHeld2 => ?_)
      clear hK K hHeld hb1
      have hHeld := hHeld2
      clear hHeld2
      try simp only [Act.put, List.getElem_toArray, List.getElem_cons_succ, List.getElem_cons_zero, List.setIfInBounds_toArray, List.set_cons_zero, List.set_cons_succ]
      refine ry1 (i := 26) rfl (fun K hK => ?_)
      go_simp
      go_at_call 22
      (with_reducible refine (CC.out _).mono ?_); rintro e w1 ⟨rfl, hb1⟩
      try dsimp only
      go_wp2_with fail
      refine hK.out _ _ (bl_trans hHeld hb1) (fun hHeld2 => ?_)
      clear hK K hHeld hb1
      have hHeld := hHeld2
      clear hHeld2
      try simp only [Act.put, List.getElem_toArray, List.getElem_cons_succ, List.getElem_cons_zero, List.setIfInBounds_toArray, List.set_cons_zero, List.set_cons_succ]
      refine tk2 (i := 27) (v := ?_) rfl (Or.inl ⟨by rfl, ?_⟩) ?_
      rotate_left
      · intro Wq hSw
        clear hSw
        go_simp
        all_goals (with_reducible rfl)
      try simp only [Act.put, List.getElem_toArray, List.getElem_cons_succ, List.getElem_cons_zero, List.setIfInBounds_toArray, List.set_cons_zero, List.set_cons_succ]
      refine tk2 (i := 28) (v := ?_) rfl (Or.inl ⟨by rfl, ?_⟩) ?_
      rotate_left
      · intro Wq hSw
        clear hSw
        go_simp
        all_goals (with_reducible rfl)
      try simp only [Act.put, List.getElem_toArray, List.getElem_cons_succ, List.getElem_cons_zero, List.setIfInBounds_toArray, List.set_cons_zero, List.set_cons_succ]
      refine tk2 (i := 29) (v := ?_) rfl (Or.inl ⟨by rfl, ?_⟩) ?_
      rotate_left
      · intro Wq hSw
        clear hSw
        go_simp
        all_goals (with_reducible rfl)
      try simp only [Act.put, List.getElem_toArray, List.getElem_cons_succ, List.getElem_cons_zero, List.setIfInBounds_toArray, List.set_cons_zero, List.set_cons_succ]
      refine tk2 (i := 30) (v := ?_) rfl (Or.inl ⟨by rfl, ?_⟩) ?_
      rotate_left
      · intro Wq hSw
        obtain ⟨k0, k1⟩ := (HS0.out.2.2.2.2.2.1.below hSw).two
        clear hSw
        go_simp
        all_goals (with_reducible rfl)
      try simp only [Act.put, List.getElem_toArray, List.getElem_cons_succ, List.getElem_cons_zero, List.setIfInBounds_toArray, List.set_cons_zero, List.set_cons_succ]
      refine tk2 (i := 31) (v := ?_) rfl (Or.inl ⟨by rfl, ?_⟩) ?_
      rotate_left
      · intro Wq hSw
        obtain ⟨k0, k1⟩ := (HS0.out.2.2.2.2.2.2.1.below hSw).two
        clear hSw
        go_simp
        all_goals (with_reducible rfl)
      try simp only [Act.put, List.getElem_toArray, List.getElem_cons_succ, List.getElem_cons_zero, List.setIfInBounds_toArray, List.set_cons_zero, List.set_cons_succ]
      refine tk2 (i := 32) (v := ?_) rfl (Or.inl ⟨by rfl, ?_⟩) ?_
      rotate_left
      · intro Wq hSw
        obtain ⟨k0, k1⟩ := (HS0.out.2.2.2.2.2.2.2.1.below hSw).two
        clear hSw
        go_simp
        all_goals (with_reducible rfl)
      try simp only [Act.put, List.getElem_toArray, List.getElem_cons_succ, List.getElem_cons_zero, List.setIfInBounds_toArray, List.set_cons_zero, List.set_cons_succ]
      refine tk2 (i := 34) (v := ?_) rfl (Or.inl ⟨by rfl, ?_⟩) ?_
      rotate_left
      · intro Wq hSw
        obtain ⟨k0, k1⟩ := (HS0.out.1.below hSw).two
        clear hSw
        go_simp
        all_goals (with_reducible rfl)
      try simp only [Act.put, List.getElem_toArray, List.getElem_cons_succ, List.getElem_cons_zero, List.setIfInBounds_toArray, List.set_cons_zero, List.set_cons_succ]
      refine tk2 (i := 35) (v := ?_) rfl (Or.inl ⟨by rfl, ?_⟩) ?_
      rotate_left
      · intro Wq hSw
        obtain ⟨k0, k1⟩ := (HS0.out.2.1.below hSw).two
        clear hSw
        go_simp
        all_goals (with_reducible rfl)
      try simp only [Act.put, List.getElem_toArray, List.getElem_cons_succ, List.getElem_cons_zero, List.setIfInBounds_toArray, List.set_cons_zero, List.set_cons_succ]
      refine tk2 (i := 36) (v := ?_) rfl (Or.inl ⟨by rfl, ?_⟩) ?_
      rotate_left
      · intro Wq hSw
        obtain ⟨k0, k1⟩ := (HS0.out.2.2.1.below hSw).two
        clear hSw
        go_simp
        all_goals (with_reducible rfl)
      try simp only [Act.put, List.getElem_toArray, List.getElem_cons_succ, List.getElem_cons_zero, List.setIfInBounds_toArray, List.set_cons_zero, List.set_cons_succ]
      refine ry1 (i := 33) rfl (fun K hK => ?_)
      go_simp
      go_at_call 24
      (with_reducible refine (MQ3.out _).mono ?_); rintro e w1 ⟨rfl, hb1⟩
      try dsimp only
      go_wp2_with fail
      refine hK.out _ _ (bl_trans hHeld hb1) (fun hHeld2 => ?_)
      clear hK K hHeld hb1
      have hHeld := hHeld2
      clear hHeld2
      try simp only [Act.put, List.getElem_toArray, List.getElem_cons_succ, List.getElem_cons_zero, List.setIfInBounds_toArray, List.set_cons_zero, List.set_cons_succ]
      refine ry1 (i := 37) rfl (fun K hK => ?_)
      go_simp
      go_at_call 24
      (with_reducible refine (CD.out _).mono ?_); rintro e w1 ⟨rfl, hb1⟩
      try dsimp only
      go_wp2_with fail
      refine hK.out _ _ (bl_trans hHeld hb1) (fun hHeld2 => ?_)
      clear hK K hHeld hb1
      have hHeld := hHeld2
      clear hHeld2
      try simp only [Act.put, List.getElem_toArray, List.getElem_cons_succ, List.getElem_cons_zero, List.setIfInBounds_toArray, List.set_cons_zero, List.set_cons_succ]
      refine tk2 (i := 38) (v := ?_) rfl (Or.inl ⟨by rfl, ?_⟩) ?_
      rotate_left
      · intro Wq hSw
        clear hSw
        go_simp
        all_goals (with_reducible rfl)
      try simp only [Act.put, List.getElem_toArray, List.getElem_cons_succ, List.getElem_cons_zero, List.setIfInBounds_toArray, List.set_cons_zero, List.set_cons_succ]
      refine tk2 (i := 39) (v := ?_) rfl (Or.inl ⟨by rfl, ?_⟩) ?_
      rotate_left
      · intro Wq hSw
        clear hSw
        go_simp
        all_goals (with_reducible rfl)
      try simp only [Act.put, List.getElem_toArray, List.getElem_cons_succ, List.getElem_cons_zero, List.setIfInBounds_toArray, List.set_cons_zero, List.set_cons_succ]
      refine tk2 (i := 40) (v := ?_) rfl (Or.inl ⟨by rfl, ?_⟩) ?_
      rotate_left
      · intro Wq hSw
        clear hSw
        go_simp
        all_goals (with_reducible rfl)
      try simp only [Act.put, List.getElem_toArray, List.getElem_cons_succ, List.getElem_cons_zero, List.setIfInBounds_toArray, List.set_cons_zero, List.set_cons_succ]
      refine tk2 (i := 41) (v := ?_) rfl (Or.inl ⟨by rfl, ?_⟩) ?_
      rotate_left
      · intro Wq hSw
        obtain ⟨k0, k1⟩ := (HS0.out.2.2.2.2.2.1.below hSw).two
        clear hSw
        go_simp
        all_goals (with_reducible rfl)
      try simp only [Act.put, List.getElem_toArray, List.getElem_cons_succ, List.getElem_cons_zero, List.setIfInBounds_toArray, List.set_cons_zero, List.set_cons_succ]
      refine tk2 (i := 42) (v := ?_) rfl (Or.inl ⟨by rfl, ?_⟩) ?_
      rotate_left
      · intro Wq hSw
        obtain ⟨k0, k1⟩ := (HS0.out.2.2.2.2.2.2.1.below hSw).two
        clear hSw
        go_simp
        all_goals (with_reducible rfl)
      try simp only [Act.put, List.getElem_toArray, List.getElem_cons_succ, List.getElem_cons_zero, List.setIfInBounds_toArray, List.set_cons_zero, List.set_cons_succ]
      refine tk2 (i := 43) (v := ?_) rfl (Or.inl ⟨by rfl, ?_⟩) ?_
      rotate_left
      · intro Wq hSw
        obtain ⟨k0, k1⟩ := (HS0.out.2.2.2.2.2.2.2.1.below hSw).two
        clear hSw
        go_simp
        all_goals (with_reducible rfl)
      try simp only [Act.put, List.getElem_toArray, List.getElem_cons_succ, List.getElem_cons_zero, List.setIfInBounds_toArray, List.set_cons_zero, List.set_cons_succ]
      refine tk2 (i := 45) (v := ?_) rfl (Or.inl ⟨by rfl, ?_⟩) ?_
      rotate_left
      · intro Wq hSw
        obtain ⟨k0, k1⟩ := (HS0.out.1.below hSw).two
        clear hSw
        go_simp
        all_goals (with_reducible rfl)
      try simp only [Act.put, List.getElem_toArray, List.getElem_cons_succ, List.getElem_cons_zero, List.setIfInBounds_toArray, List.set_cons_zero, List.set_cons_succ]
      refine tk2 (i := 46) (v := ?_) rfl (Or.inl ⟨by rfl, ?_⟩) ?_
      rotate_left
      · intro Wq hSw
        obtain ⟨k0, k1⟩ := (HS0.out.2.1.below hSw).two
        clear hSw
        go_simp
        all_goals (with_reducible rfl)
      try simp only [Act.put, List.getElem_toArray, List.getElem_cons_succ, List.getElem_cons_zero, List.setIfInBounds_toArray, List.set_cons_zero, List.set_cons_succ]
      refine tk2 (i := 47) (v := ?_) rfl (Or.inl ⟨by rfl, ?_⟩) ?_
      rotate_left
      · intro Wq hSw
        obtain ⟨k0, k1⟩ := (HS0.out.2.2.1.below hSw).two
        clear hSw
        go_simp
        all_goals (with_reducible rfl)
      try simp only [Act.put, List.getElem_toArray, List.getElem_cons_succ, List.getElem_cons_zero, List.setIfInBounds_toArray, List.set_cons_zero, List.set_cons_succ]
      refine ry1 (i := 44) rfl (fun K hK => ?_)
      go_simp
      go_at_call 28
      (with_reducible refine (MQ4.out _).mono ?_); rintro e w1 ⟨rfl, hb1⟩
      try dsimp only
      go_wp2_with fail
      refine hK.out _ _ (bl_trans hHeld hb1) (fun hHeld2 => ?_)
      clear hK K hHeld hb1
      have hHeld := hHeld2
      clear hHeld2
      try simp only [Act.put, List.getElem_toArray, List.getElem_cons_succ, List.getElem_cons_zero, List.setIfInBounds_toArray, List.set_cons_zero, List.set_cons_succ]
      refine ry1 (i := 48) rfl (fun K hK => ?_)
      go_simp
      go_at_call 28
      (with_reducible refine (CS.out _).mono ?_); rintro e w1 ⟨rfl, hb1⟩
      try dsimp only
      go_wp2_with fail
      refine hK.out _ _ (bl_trans hHeld hb1) (fun hHeld2 => ?_)
      clear hK K hHeld hb1
      have hHeld := hHeld2
      clear hHeld2
      try simp only [Act.put, List.getElem_toArray, List.getElem_cons_succ, List.getElem_cons_zero, List.setIfInBounds_toArray, List.set_cons_zero, List.set_cons_succ]
      refine tk2 (i := 49) (v := ?_) rfl (Or.inl ⟨by rfl, ?_⟩) ?_
      rotate_left
      · intro Wq hSw
        clear hSw
        go_simp
        all_goals (with_reducible rfl)
      try simp only [Act.put, List.getElem_toArray, List.getElem_cons_succ, List.getElem_cons_zero, List.setIfInBounds_toArray, List.set_cons_zero, List.set_cons_succ]
      refine tk2 (i := 50) (v := ?_) rfl (Or.inl ⟨by rfl, ?_⟩) ?_
      rotate_left
      · intro Wq hSw
        clear hSw
        go_simp
        all_goals (with_reducible rfl)
      try simp only [Act.put, List.getElem_toArray, List.getElem_cons_succ, List.getElem_cons_zero, List.setIfInBounds_toArray, List.set_cons_zero, List.set_cons_succ]
      refine tk2 (i := 51) (v := ?_) rfl (Or.inl ⟨by rfl, ?_⟩) ?_
      rotate_left
      · intro Wq hSw
        clear hSw
        go_simp
        all_goals (with_reducible rfl)
      try simp only [Act.put, List.getElem_toArray, List.getElem_cons_succ, List.getElem_cons_zero, List.setIfInBounds_toArray, List.set_cons_zero, List.set_cons_succ]
      refine wpAnyH_done (by kernel_rfl) ?_ _
      go_wp2_with fail
      go_meet
      case rel => exact ⟨rfl, ⟨HS0.out.1.below hHeld, HS0.out.2.1.below hHeld, HS0.out.2.2.1.below hHeld, HS0.out.2.2.2.1.below hHeld, HS0.out.2.2.2.2.1.below hHeld, HS0.out.2.2.2.2.2.1.below hHeld, HS0.out.2.2.2.2.2.2.1.below hHeld, HS0.out.2.2.2.2.2.2.2.1.below hHeld, HS0.out.2.2.2.2.2.2.2.2.1.below hHeld, HS0.out.2.2.2.2.2.2.2.2.2.below hHeld⟩⟩
  case rest =>
  obtain ⟨rfl, hS0⟩ := hcut
  clear HS0 MP
  have HS0 := Lib.hid hS0
  clear hS0
  have HS9 : Hid ((fun W => Var W (w.heap.size) [.int .i64 a.x, .int .i64 a.y] ∧ Var W (w.heap.size + 1) [.int .i64 b.x, .int .i64 b.y] ∧ Var W (w.heap.size + 1 + 1) [.int .i64 c.x, .int .i64 c.y] ∧ Var W (w.heap.size + 1 + 1 + 1) [.int .i64 d.x, .int .i64 d.y] ∧ Var W (w.heap.size + 1 + 1 + 1 + 1) [.int .i64 t.x, .int .i64 t.y] ∧ Grew w 5 W) _) := ⟨HS0.out.1, HS0.out.2.1, HS0.out.2.2.1, HS0.out.2.2.2.1, HS0.out.2.2.2.2.1, HS0.out.2.2.2.2.2.2.2.2.2⟩
  clear HS0
  have HS0 := HS9
  clear HS9
  rename_i K0 aK0 K aK
  refine aK _ _ ?_
  clear aK K
  repeat revert ‹Value›
  revert HS0
  revert n2
  revert n1
  revert e5
  revert e4
  revert e3
  revert e2
  revert e1
  revert CS
  revert CD
  revert CC
  revert CO
  revert NP4
  revert NP3
  revert NP2
  revert NP1
  revert TP4
  revert TP3
  revert TP2
  revert TP1
  revert N4
  revert N3
  revert N2
  revert N1
  revert T4
  revert T3
  revert T2
  revert T1
  revert wc
  revert aK0
  revert K0
  revert g14
  revert g13
  revert g12
  revert g11
  revert zs
  revert zd
  revert zc
  revert zo
  revert s2
  revert r2
  revert q2
  revert p2
  revert s1
  revert r1
  revert q1
  revert p1
  exact hP.out⟩
end Go.Proofs.Ytojfggnimmaemaa
