/-
  Proved: for every three places the law PredCentres returns true, and its arguments read as they did. No condition.
-/
import Derived.Test.YtojfggnimmaemaaPCnI
import Derived.Test.YtojfggnimmaemaaKnown3
/-
  The walk of the law PredCentres, part 10.
-/
namespace Go.Proofs.Ytojfggnimmaemaa
open Go.RowKit

set_option maxHeartbeats 32000000 in
set_option maxRecDepth 100000 in
theorem pcJ (a b c : Pt) (w : World) : (pcI a b c w).val := by
    intro p g7 px py fr g9 g10 g11 g12 g13 g14 m14 ad14 n14 c14 g15 m15 ad15 n15 c15 g16 m16 ad16 n16 c16 K0 aK0 wc HP0 EZ Gfd Gnfd Gpx Gpy K1 K2 K3 K4 ho ge9 ge10 ge11 ge12 ge13 ge14 ge15 ge16 HS0
    intros
    go_upto_region 15 with (fail)
    go_cut [17] (fun tv W => tv = .bool true ∧ (fun W => Var W (g7) [.int .i64 p.x, .int .i64 p.y] ∧ Var W (g14) [.bool m14, .slice ad14 n14 c14] ∧ Var W (g15) [.bool m15, .slice ad15 n15 c15] ∧ Var W (g16) [.bool m16, .slice ad16 n16 c16] ∧ NumIs (.agg #[.bool m14, .slice ad14 n14 c14]) (fr) W ∧ NumIs (.agg #[.bool m15, .slice ad15 n15 c15]) (px) W ∧ NumIs (.agg #[.bool m16, .slice ad16 n16 c16]) (py) W ∧ Grew w 3 W) W)
    case first =>
      clear EZ
      rcases dec2h (fr ≤ px) with h1 | h1
      · rw [h1] at K1
        clear K2 K3 K4 ho
        refine wp_region_bel (by kernel_rfl) (fun q1 => ?_)
        revert q1
        generalize World.drew _ = W1
        intro q1
        refine tk2 (i := 0) (v := ?_) rfl (Or.inl ⟨by rfl, ?_⟩) ?_
        rotate_left
        · intro Wq hSw
          obtain ⟨k0, k1⟩ := (HS0.out.2.2.1.below hSw).two
          clear hSw
          go_simp
          all_goals (with_reducible rfl)
        try simp only [Act.put, x2, x4, x5, x6, x7]
        refine tk2 (i := 1) (v := ?_) rfl (Or.inl ⟨by rfl, ?_⟩) ?_
        rotate_left
        · intro Wq hSw
          obtain ⟨k0, k1⟩ := (HS0.out.2.1.below hSw).two
          clear hSw
          go_simp
          all_goals (with_reducible rfl)
        try simp only [Act.put, x2, x3, x4, x5, x6, x7]
        refine ry1 (i := 2) rfl (fun K hK => ?_)
        go_simp
        go_at_call 40
        (with_reducible refine (cmp_n _ _ px fr Gpx.out Gfd.out _ (HS0.out.2.2.2.2.2.1.below q1) (HS0.out.2.2.2.2.1.below q1)).mono ?_)
        rintro e w1 ⟨rfl, hb1⟩
        generalize sg3 (px - fr) = s1 at *
        go_wp2_with fail
        refine hK.out _ _ (bl_trans q1 hb1) (fun q2 => ?_)
        clear hK K q1 hb1
        have q1 := q2
        clear q2
        try simp only [Act.put, x2, x3, x4, x5, x6, x7]
        refine tk2 (i := 3) (v := ?_) rfl (Or.inl ⟨by rfl, ?_⟩) ?_
        rotate_left
        · intro Wq hSw
          clear hSw
          go_simp
          all_goals (with_reducible rfl)
        try simp only [Act.put, x2, x3, x4, x5, x6, x7]
        refine tk2 (i := 4) (v := ?_) rfl (Or.inl ⟨by rfl, ?_⟩) ?_
        rotate_left
        · intro Wq hSw
          clear hSw
          go_simp
          all_goals (with_reducible rfl)
        try simp only [Act.put, x2, x3, x4, x5, x6, x7]
        refine tk2 (i := 5) (v := _) rfl (Or.inr ⟨by rfl, rfl⟩) ?_
        try simp only [Act.put, x2, x3, x4, x5, x6, x7]
        refine tk2 (i := 6) (v := _) rfl (Or.inr ⟨by rfl, rfl⟩) ?_
        try simp only [Act.put, x2, x3, x4, x5, x6, x7]
        refine tk2 (i := 7) (v := _) rfl (Or.inr ⟨by rfl, rfl⟩) ?_
        try simp only [Act.put, x2, x3, x4, x5, x6, x7]
        refine tk2 (i := 8) (v := _) rfl (Or.inr ⟨by rfl, rfl⟩) ?_
        try simp only [Act.put, x2, x3, x4, x5, x6, x7]
        refine tk2 (i := 9) (v := ?_) rfl (Or.inl ⟨by rfl, ?_⟩) ?_
        rotate_left
        · intro Wq hSw
          clear hSw
          go_simp
          all_goals (with_reducible rfl)
        try simp only [Act.put, x2, x3, x4, x5, x6, x7]
        refine tk2 (i := 10) (v := ?_) rfl (Or.inl ⟨by rfl, ?_⟩) ?_
        rotate_left
        · intro Wq hSw
          clear hSw
          go_simp
          all_goals (with_reducible rfl)
        try simp only [Act.put, x2, x3, x4, x5, x6, x7]
        refine tk2 (i := 11) (v := _) rfl (Or.inr ⟨by rfl, rfl⟩) ?_
        try simp only [Act.put, x2, x3, x4, x5, x6, x7]
        refine tk2 (i := 12) (v := _) rfl (Or.inr ⟨by rfl, rfl⟩) ?_
        try simp only [Act.put, x2, x3, x4, x5, x6, x7]
        refine tk2 (i := 13) (v := _) rfl (Or.inr ⟨by rfl, rfl⟩) ?_
        try simp only [Act.put, x2, x3, x4, x5, x6, x7]
        refine tk2 (i := 14) (v := _) rfl (Or.inr ⟨by rfl, rfl⟩) ?_
        try simp only [Act.put, x2, x3, x4, x5, x6, x7]
        refine tk2 (i := 15) (v := _) rfl (Or.inr ⟨by rfl, rfl⟩) ?_
        try simp only [Act.put, x2, x3, x4, x5, x6, x7]
        refine tk2 (i := 16) (v := ?_) rfl (Or.inl ⟨by rfl, ?_⟩) ?_
        rotate_left
        · intro Wq hSw
          clear hSw
          go_simp
          all_goals (with_reducible rfl)
        try simp only [Act.put, x2, x3, x4, x5, x6, x7]
        refine tk2 (i := 17) (v := ?_) rfl (Or.inl ⟨by rfl, ?_⟩) ?_
        rotate_left
        · intro Wq hSw
          clear hSw
          go_simp
          all_goals (with_reducible rfl)
        try simp only [Act.put, x2, x3, x4, x5, x6, x7]
        refine tk2 (i := 18) (v := _) rfl (Or.inr ⟨by rfl, rfl⟩) ?_
        try simp only [Act.put, x2, x3, x4, x5, x6, x7]
        refine tk2 (i := 19) (v := _) rfl (Or.inr ⟨by rfl, rfl⟩) ?_
        try simp only [Act.put, x2, x3, x4, x5, x6, x7]
        refine tk2 (i := 20) (v := _) rfl (Or.inr ⟨by rfl, rfl⟩) ?_
        try simp only [Act.put, x2, x3, x4, x5, x6, x7]
        refine tk2 (i := 21) (v := _) rfl (Or.inr ⟨by rfl, rfl⟩) ?_
        try simp only [Act.put, x2, x3, x4, x5, x6, x7]
        refine tk2 (i := 22) (v := _) rfl (Or.inr ⟨by rfl, rfl⟩) ?_
        try simp only [Act.put, x2, x3, x4, x5, x6, x7]
        refine tk2 (i := 23) (v := ?_) rfl (Or.inl ⟨by rfl, ?_⟩) ?_
        rotate_left
        · intro Wq hSw
          clear hSw
          go_simp
          all_goals (with_reducible rfl)
        try simp only [Act.put, x2, x3, x4, x5, x6, x7]
        refine tk2 (i := 24) (v := ?_) rfl (Or.inl ⟨by rfl, ?_⟩) ?_
        rotate_left
        · intro Wq hSw
          clear hSw
          go_simp
          all_goals (with_reducible rfl)
        try simp only [Act.put, x2, x3, x4, x5, x6, x7]
        refine wpAnyH_done (by kernel_rfl) ?_ _
        go_wp2_with fail
        go_meet
        case rel => exact ⟨rfl, ⟨HS0.out.1.below q1, HS0.out.2.1.below q1, HS0.out.2.2.1.below q1, HS0.out.2.2.2.1.below q1, HS0.out.2.2.2.2.1.below q1, HS0.out.2.2.2.2.2.1.below q1, HS0.out.2.2.2.2.2.2.1.below q1, HS0.out.2.2.2.2.2.2.2.below q1⟩⟩
      rw [h1] at K1
      rcases dec2h (fr ≤ py) with h2 | h2
      · rw [h2] at K2
        clear K3 K4 ho
        refine wp_region_bel (by kernel_rfl) (fun q1 => ?_)
        revert q1
        generalize World.drew _ = W1
        intro q1
        refine tk2 (i := 0) (v := ?_) rfl (Or.inl ⟨by rfl, ?_⟩) ?_
        rotate_left
        · intro Wq hSw
          obtain ⟨k0, k1⟩ := (HS0.out.2.2.1.below hSw).two
          clear hSw
          go_simp
          all_goals (with_reducible rfl)
        try simp only [Act.put, x2, x4, x5, x6, x7]
        refine tk2 (i := 1) (v := ?_) rfl (Or.inl ⟨by rfl, ?_⟩) ?_
        rotate_left
        · intro Wq hSw
          obtain ⟨k0, k1⟩ := (HS0.out.2.1.below hSw).two
          clear hSw
          go_simp
          all_goals (with_reducible rfl)
        try simp only [Act.put, x2, x3, x4, x5, x6, x7]
        refine ry1 (i := 2) rfl (fun K hK => ?_)
        go_simp
        go_at_call 40
        (with_reducible refine (cmp_n _ _ px fr Gpx.out Gfd.out _ (HS0.out.2.2.2.2.2.1.below q1) (HS0.out.2.2.2.2.1.below q1)).mono ?_)
        rintro e w1 ⟨rfl, hb1⟩
        generalize sg3 (px - fr) = s1 at *
        go_wp2_with fail
        refine hK.out _ _ (bl_trans q1 hb1) (fun q2 => ?_)
        clear hK K q1 hb1
        have q1 := q2
        clear q2
        try simp only [Act.put, x2, x3, x4, x5, x6, x7]
        refine tk2 (i := 3) (v := ?_) rfl (Or.inl ⟨by rfl, ?_⟩) ?_
        rotate_left
        · intro Wq hSw
          clear hSw
          go_simp
          all_goals (with_reducible rfl)
        try simp only [Act.put, x2, x3, x4, x5, x6, x7]
        refine tk2 (i := 4) (v := ?_) rfl (Or.inl ⟨by rfl, ?_⟩) ?_
        rotate_left
        · intro Wq hSw
          clear hSw
          go_simp
          all_goals (with_reducible rfl)
        try simp only [Act.put, x2, x3, x4, x5, x6, x7]
        refine tk2 (i := 5) (v := ?_) rfl (Or.inl ⟨by rfl, ?_⟩) ?_
        rotate_left
        · intro Wq hSw
          obtain ⟨k0, k1⟩ := (HS0.out.2.2.2.1.below hSw).two
          clear hSw
          go_simp
          all_goals (with_reducible rfl)
        try simp only [Act.put, x2, x3, x4, x5, x6, x7]
        refine tk2 (i := 6) (v := ?_) rfl (Or.inl ⟨by rfl, ?_⟩) ?_
        rotate_left
        · intro Wq hSw
          obtain ⟨k0, k1⟩ := (HS0.out.2.1.below hSw).two
          clear hSw
          go_simp
          all_goals (with_reducible rfl)
        try simp only [Act.put, x2, x3, x4, x5, x6, x7]
        refine ry1 (i := 7) rfl (fun K hK => ?_)
        go_simp
        go_at_call 40
        (with_reducible refine (cmp_n _ _ py fr Gpy.out Gfd.out _ (HS0.out.2.2.2.2.2.2.1.below q1) (HS0.out.2.2.2.2.1.below q1)).mono ?_)
        rintro e w1 ⟨rfl, hb1⟩
        generalize sg3 (py - fr) = s2 at *
        go_wp2_with fail
        refine hK.out _ _ (bl_trans q1 hb1) (fun q2 => ?_)
        clear hK K q1 hb1
        have q1 := q2
        clear q2
        try simp only [Act.put, x2, x3, x4, x5, x6, x7]
        refine tk2 (i := 8) (v := ?_) rfl (Or.inl ⟨by rfl, ?_⟩) ?_
        rotate_left
        · intro Wq hSw
          clear hSw
          go_simp
          all_goals (with_reducible rfl)
        try simp only [Act.put, x2, x3, x4, x5, x6, x7]
        refine tk2 (i := 9) (v := ?_) rfl (Or.inl ⟨by rfl, ?_⟩) ?_
        rotate_left
        · intro Wq hSw
          clear hSw
          go_simp
          all_goals (with_reducible rfl)
        try simp only [Act.put, x2, x3, x4, x5, x6, x7]
        refine tk2 (i := 10) (v := ?_) rfl (Or.inl ⟨by rfl, ?_⟩) ?_
        rotate_left
        · intro Wq hSw
          clear hSw
          go_simp
          all_goals (with_reducible rfl)
        try simp only [Act.put, x2, x3, x4, x5, x6, x7]
        refine tk2 (i := 11) (v := _) rfl (Or.inr ⟨by rfl, rfl⟩) ?_
        try simp only [Act.put, x2, x3, x4, x5, x6, x7]
        refine tk2 (i := 12) (v := _) rfl (Or.inr ⟨by rfl, rfl⟩) ?_
        try simp only [Act.put, x2, x3, x4, x5, x6, x7]
        refine tk2 (i := 13) (v := _) rfl (Or.inr ⟨by rfl, rfl⟩) ?_
        try simp only [Act.put, x2, x3, x4, x5, x6, x7]
        refine tk2 (i := 14) (v := _) rfl (Or.inr ⟨by rfl, rfl⟩) ?_
        try simp only [Act.put, x2, x3, x4, x5, x6, x7]
        refine tk2 (i := 15) (v := _) rfl (Or.inr ⟨by rfl, rfl⟩) ?_
        try simp only [Act.put, x2, x3, x4, x5, x6, x7]
        refine tk2 (i := 16) (v := ?_) rfl (Or.inl ⟨by rfl, ?_⟩) ?_
        rotate_left
        · intro Wq hSw
          clear hSw
          go_simp
          all_goals (with_reducible rfl)
        try simp only [Act.put, x2, x3, x4, x5, x6, x7]
        refine tk2 (i := 17) (v := ?_) rfl (Or.inl ⟨by rfl, ?_⟩) ?_
        rotate_left
        · intro Wq hSw
          clear hSw
          go_simp
          all_goals (with_reducible rfl)
        try simp only [Act.put, x2, x3, x4, x5, x6, x7]
        refine tk2 (i := 18) (v := _) rfl (Or.inr ⟨by rfl, rfl⟩) ?_
        try simp only [Act.put, x2, x3, x4, x5, x6, x7]
        refine tk2 (i := 19) (v := _) rfl (Or.inr ⟨by rfl, rfl⟩) ?_
        try simp only [Act.put, x2, x3, x4, x5, x6, x7]
        refine tk2 (i := 20) (v := _) rfl (Or.inr ⟨by rfl, rfl⟩) ?_
        try simp only [Act.put, x2, x3, x4, x5, x6, x7]
        refine tk2 (i := 21) (v := _) rfl (Or.inr ⟨by rfl, rfl⟩) ?_
        try simp only [Act.put, x2, x3, x4, x5, x6, x7]
        refine tk2 (i := 22) (v := _) rfl (Or.inr ⟨by rfl, rfl⟩) ?_
        try simp only [Act.put, x2, x3, x4, x5, x6, x7]
        refine tk2 (i := 23) (v := ?_) rfl (Or.inl ⟨by rfl, ?_⟩) ?_
        rotate_left
        · intro Wq hSw
          clear hSw
          go_simp
          all_goals (with_reducible rfl)
        try simp only [Act.put, x2, x3, x4, x5, x6, x7]
        refine tk2 (i := 24) (v := ?_) rfl (Or.inl ⟨by rfl, ?_⟩) ?_
        rotate_left
        · intro Wq hSw
          clear hSw
          go_simp
          all_goals (with_reducible rfl)
        try simp only [Act.put, x2, x3, x4, x5, x6, x7]
        refine wpAnyH_done (by kernel_rfl) ?_ _
        go_wp2_with fail
        go_meet
        case rel => exact ⟨rfl, ⟨HS0.out.1.below q1, HS0.out.2.1.below q1, HS0.out.2.2.1.below q1, HS0.out.2.2.2.1.below q1, HS0.out.2.2.2.2.1.below q1, HS0.out.2.2.2.2.2.1.below q1, HS0.out.2.2.2.2.2.2.1.below q1, HS0.out.2.2.2.2.2.2.2.below q1⟩⟩
      rw [h2] at K2
      rcases dec2h (px < -fr) with h3 | h3
      · rw [h3] at K3
        clear K4 ho
        refine wp_region_bel (by kernel_rfl) (fun q1 => ?_)
        revert q1
        generalize World.drew _ = W1
        intro q1
        refine tk2 (i := 0) (v := ?_) rfl (Or.inl ⟨by rfl, ?_⟩) ?_
        rotate_left
        · intro Wq hSw
          obtain ⟨k0, k1⟩ := (HS0.out.2.2.1.below hSw).two
          clear hSw
          go_simp
          all_goals (with_reducible rfl)
        try simp only [Act.put, x2, x4, x5, x6, x7]
        refine tk2 (i := 1) (v := ?_) rfl (Or.inl ⟨by rfl, ?_⟩) ?_
        rotate_left
        · intro Wq hSw
          obtain ⟨k0, k1⟩ := (HS0.out.2.1.below hSw).two
          clear hSw
          go_simp
          all_goals (with_reducible rfl)
        try simp only [Act.put, x2, x3, x4, x5, x6, x7]
        refine ry1 (i := 2) rfl (fun K hK => ?_)
        go_simp
        go_at_call 40
        (with_reducible refine (cmp_n _ _ px fr Gpx.out Gfd.out _ (HS0.out.2.2.2.2.2.1.below q1) (HS0.out.2.2.2.2.1.below q1)).mono ?_)
        rintro e w1 ⟨rfl, hb1⟩
        generalize sg3 (px - fr) = s1 at *
        go_wp2_with fail
        refine hK.out _ _ (bl_trans q1 hb1) (fun q2 => ?_)
        clear hK K q1 hb1
        have q1 := q2
        clear q2
        try simp only [Act.put, x2, x3, x4, x5, x6, x7]
        refine tk2 (i := 3) (v := ?_) rfl (Or.inl ⟨by rfl, ?_⟩) ?_
        rotate_left
        · intro Wq hSw
          clear hSw
          go_simp
          all_goals (with_reducible rfl)
        try simp only [Act.put, x2, x3, x4, x5, x6, x7]
        refine tk2 (i := 4) (v := ?_) rfl (Or.inl ⟨by rfl, ?_⟩) ?_
        rotate_left
        · intro Wq hSw
          clear hSw
          go_simp
          all_goals (with_reducible rfl)
        try simp only [Act.put, x2, x3, x4, x5, x6, x7]
        refine tk2 (i := 5) (v := ?_) rfl (Or.inl ⟨by rfl, ?_⟩) ?_
        rotate_left
        · intro Wq hSw
          obtain ⟨k0, k1⟩ := (HS0.out.2.2.2.1.below hSw).two
          clear hSw
          go_simp
          all_goals (with_reducible rfl)
        try simp only [Act.put, x2, x3, x4, x5, x6, x7]
        refine tk2 (i := 6) (v := ?_) rfl (Or.inl ⟨by rfl, ?_⟩) ?_
        rotate_left
        · intro Wq hSw
          obtain ⟨k0, k1⟩ := (HS0.out.2.1.below hSw).two
          clear hSw
          go_simp
          all_goals (with_reducible rfl)
        try simp only [Act.put, x2, x3, x4, x5, x6, x7]
        refine ry1 (i := 7) rfl (fun K hK => ?_)
        go_simp
        go_at_call 40
        (with_reducible refine (cmp_n _ _ py fr Gpy.out Gfd.out _ (HS0.out.2.2.2.2.2.2.1.below q1) (HS0.out.2.2.2.2.1.below q1)).mono ?_)
        rintro e w1 ⟨rfl, hb1⟩
        generalize sg3 (py - fr) = s2 at *
        go_wp2_with fail
        refine hK.out _ _ (bl_trans q1 hb1) (fun q2 => ?_)
        clear hK K q1 hb1
        have q1 := q2
        clear q2
        try simp only [Act.put, x2, x3, x4, x5, x6, x7]
        refine tk2 (i := 8) (v := ?_) rfl (Or.inl ⟨by rfl, ?_⟩) ?_
        rotate_left
        · intro Wq hSw
          clear hSw
          go_simp
          all_goals (with_reducible rfl)
        try simp only [Act.put, x2, x3, x4, x5, x6, x7]
        refine tk2 (i := 9) (v := ?_) rfl (Or.inl ⟨by rfl, ?_⟩) ?_
        rotate_left
        · intro Wq hSw
          clear hSw
          go_simp
          all_goals (with_reducible rfl)
        try simp only [Act.put, x2, x3, x4, x5, x6, x7]
        refine tk2 (i := 10) (v := ?_) rfl (Or.inl ⟨by rfl, ?_⟩) ?_
        rotate_left
        · intro Wq hSw
          clear hSw
          go_simp
          all_goals (with_reducible rfl)
        try simp only [Act.put, x2, x3, x4, x5, x6, x7]
        refine tk2 (i := 11) (v := ?_) rfl (Or.inl ⟨by rfl, ?_⟩) ?_
        rotate_left
        · intro Wq hSw
          obtain ⟨k0, k1⟩ := (HS0.out.2.2.1.below hSw).two
          clear hSw
          go_simp
          all_goals (with_reducible rfl)
        try simp only [Act.put, x2, x3, x4, x5, x6, x7]
        refine tk2 (i := 12) (v := ?_) rfl (Or.inl ⟨by rfl, ?_⟩) ?_
        rotate_left
        · intro Wq hSw
          obtain ⟨k0, k1⟩ := (HS0.out.2.1.below hSw).two
          clear hSw
          go_simp
          all_goals (with_reducible rfl)
        try simp only [Act.put, x2, x3, x4, x5, x6, x7]
        refine ry1 (i := 13) rfl (fun K hK => ?_)
        go_simp
        go_at_call 39
        (with_reducible refine (neg_num _ fr _ (HS0.out.2.2.2.2.1.below q1)).mono ?_); rintro e w1 ⟨vu, rfl, hNu, hb1⟩
        obtain ⟨mu, adu, nu, cu, rfl⟩ := hNu.shape
        have HNu := hi hNu
        clear hNu
        go_wp2_with fail
        refine hK.out _ _ (bl_trans q1 hb1) (fun q2 => ?_)
        clear hK K q1 hb1
        have q1 := q2
        clear q2
        try simp only [Act.put, x2, x3, x4, x5, x6, x7]
        refine ry1 (i := 14) rfl (fun K hK => ?_)
        go_simp
        go_at_call 40
        (with_reducible refine (cmp_n _ _ px (-fr) Gpx.out Gnfd.out _ (HS0.out.2.2.2.2.2.1.below q1) HNu.out).mono ?_)
        rintro e w1 ⟨rfl, hb1⟩
        generalize sg3 (px - -fr) = s3 at *
        go_wp2_with fail
        refine hK.out _ _ (bl_trans q1 hb1) (fun q2 => ?_)
        clear hK K q1 hb1
        have q1 := q2
        clear q2
        try simp only [Act.put, x2, x3, x4, x5, x6, x7]
        refine tk2 (i := 15) (v := ?_) rfl (Or.inl ⟨by rfl, ?_⟩) ?_
        rotate_left
        · intro Wq hSw
          clear hSw
          go_simp
          all_goals (with_reducible rfl)
        try simp only [Act.put, x2, x3, x4, x5, x6, x7]
        refine tk2 (i := 16) (v := ?_) rfl (Or.inl ⟨by rfl, ?_⟩) ?_
        rotate_left
        · intro Wq hSw
          clear hSw
          go_simp
          all_goals (with_reducible rfl)
        try simp only [Act.put, x2, x3, x4, x5, x6, x7]
        refine tk2 (i := 17) (v := ?_) rfl (Or.inl ⟨by rfl, ?_⟩) ?_
        rotate_left
        · intro Wq hSw
          clear hSw
          go_simp
          all_goals (with_reducible rfl)
        try simp only [Act.put, x2, x3, x4, x5, x6, x7]
        refine tk2 (i := 18) (v := _) rfl (Or.inr ⟨by rfl, rfl⟩) ?_
        try simp only [Act.put, x2, x3, x4, x5, x6, x7]
        refine tk2 (i := 19) (v := _) rfl (Or.inr ⟨by rfl, rfl⟩) ?_
        try simp only [Act.put, x2, x3, x4, x5, x6, x7]
        refine tk2 (i := 20) (v := _) rfl (Or.inr ⟨by rfl, rfl⟩) ?_
        try simp only [Act.put, x2, x3, x4, x5, x6, x7]
        refine tk2 (i := 21) (v := _) rfl (Or.inr ⟨by rfl, rfl⟩) ?_
        try simp only [Act.put, x2, x3, x4, x5, x6, x7]
        refine tk2 (i := 22) (v := _) rfl (Or.inr ⟨by rfl, rfl⟩) ?_
        try simp only [Act.put, x2, x3, x4, x5, x6, x7]
        refine tk2 (i := 23) (v := ?_) rfl (Or.inl ⟨by rfl, ?_⟩) ?_
        rotate_left
        · intro Wq hSw
          clear hSw
          go_simp
          all_goals (with_reducible rfl)
        try simp only [Act.put, x2, x3, x4, x5, x6, x7]
        refine tk2 (i := 24) (v := ?_) rfl (Or.inl ⟨by rfl, ?_⟩) ?_
        rotate_left
        · intro Wq hSw
          clear hSw
          go_simp
          all_goals (with_reducible rfl)
        try simp only [Act.put, x2, x3, x4, x5, x6, x7]
        refine wpAnyH_done (by kernel_rfl) ?_ _
        go_wp2_with fail
        go_meet
        case rel => exact ⟨rfl, ⟨HS0.out.1.below q1, HS0.out.2.1.below q1, HS0.out.2.2.1.below q1, HS0.out.2.2.2.1.below q1, HS0.out.2.2.2.2.1.below q1, HS0.out.2.2.2.2.2.1.below q1, HS0.out.2.2.2.2.2.2.1.below q1, HS0.out.2.2.2.2.2.2.2.below q1⟩⟩
      rw [h3] at K3
      have h4 : decide (py < -fr) = true := by
        have k1 := of_decide_eq_false h1
        have k2 := of_decide_eq_false h2
        have k3 := of_decide_eq_false h3
        exact decide_eq_true (by omega)
      rw [h4] at K4
      clear ho h1 h2 h3 h4
      refine wp_region_bel (by kernel_rfl) (fun q1 => ?_)
      revert q1
      generalize World.drew _ = W1
      intro q1
      refine tk2 (i := 0) (v := ?_) rfl (Or.inl ⟨by rfl, ?_⟩) ?_
      rotate_left
      · intro Wq hSw
        obtain ⟨k0, k1⟩ := (HS0.out.2.2.1.below hSw).two
        clear hSw
        go_simp
        all_goals (with_reducible rfl)
      try simp only [Act.put, x2, x4, x5, x6, x7]
      refine tk2 (i := 1) (v := ?_) rfl (Or.inl ⟨by rfl, ?_⟩) ?_
      rotate_left
      · intro Wq hSw
        obtain ⟨k0, k1⟩ := (HS0.out.2.1.below hSw).two
        clear hSw
        go_simp
        all_goals (with_reducible rfl)
      try simp only [Act.put, x2, x3, x4, x5, x6, x7]
      refine ry1 (i := 2) rfl (fun K hK => ?_)
      go_simp
      go_at_call 40
      (with_reducible refine (cmp_n _ _ px fr Gpx.out Gfd.out _ (HS0.out.2.2.2.2.2.1.below q1) (HS0.out.2.2.2.2.1.below q1)).mono ?_)
      rintro e w1 ⟨rfl, hb1⟩
      generalize sg3 (px - fr) = s1 at *
      go_wp2_with fail
      refine hK.out _ _ (bl_trans q1 hb1) (fun q2 => ?_)
      clear hK K q1 hb1
      have q1 := q2
      clear q2
      try simp only [Act.put, x2, x3, x4, x5, x6, x7]
      refine tk2 (i := 3) (v := ?_) rfl (Or.inl ⟨by rfl, ?_⟩) ?_
      rotate_left
      · intro Wq hSw
        clear hSw
        go_simp
        all_goals (with_reducible rfl)
      try simp only [Act.put, x2, x3, x4, x5, x6, x7]
      refine tk2 (i := 4) (v := ?_) rfl (Or.inl ⟨by rfl, ?_⟩) ?_
      rotate_left
      · intro Wq hSw
        clear hSw
        go_simp
        all_goals (with_reducible rfl)
      try simp only [Act.put, x2, x3, x4, x5, x6, x7]
      refine tk2 (i := 5) (v := ?_) rfl (Or.inl ⟨by rfl, ?_⟩) ?_
      rotate_left
      · intro Wq hSw
        obtain ⟨k0, k1⟩ := (HS0.out.2.2.2.1.below hSw).two
        clear hSw
        go_simp
        all_goals (with_reducible rfl)
      try simp only [Act.put, x2, x3, x4, x5, x6, x7]
      refine tk2 (i := 6) (v := ?_) rfl (Or.inl ⟨by rfl, ?_⟩) ?_
      rotate_left
      · intro Wq hSw
        obtain ⟨k0, k1⟩ := (HS0.out.2.1.below hSw).two
        clear hSw
        go_simp
        all_goals (with_reducible rfl)
      try simp only [Act.put, x2, x3, x4, x5, x6, x7]
      refine ry1 (i := 7) rfl (fun K hK => ?_)
      go_simp
      go_at_call 40
      (with_reducible refine (cmp_n _ _ py fr Gpy.out Gfd.out _ (HS0.out.2.2.2.2.2.2.1.below q1) (HS0.out.2.2.2.2.1.below q1)).mono ?_)
      rintro e w1 ⟨rfl, hb1⟩
      generalize sg3 (py - fr) = s2 at *
      go_wp2_with fail
      refine hK.out _ _ (bl_trans q1 hb1) (fun q2 => ?_)
      clear hK K q1 hb1
      have q1 := q2
      clear q2
      try simp only [Act.put, x2, x3, x4, x5, x6, x7]
      refine tk2 (i := 8) (v := ?_) rfl (Or.inl ⟨by rfl, ?_⟩) ?_
      rotate_left
      · intro Wq hSw
        clear hSw
        go_simp
        all_goals (with_reducible rfl)
      try simp only [Act.put, x2, x3, x4, x5, x6, x7]
      refine tk2 (i := 9) (v := ?_) rfl (Or.inl ⟨by rfl, ?_⟩) ?_
      rotate_left
      · intro Wq hSw
        clear hSw
        go_simp
        all_goals (with_reducible rfl)
      try simp only [Act.put, x2, x3, x4, x5, x6, x7]
      refine tk2 (i := 10) (v := ?_) rfl (Or.inl ⟨by rfl, ?_⟩) ?_
      rotate_left
      · intro Wq hSw
        clear hSw
        go_simp
        all_goals (with_reducible rfl)
      try simp only [Act.put, x2, x3, x4, x5, x6, x7]
      refine tk2 (i := 11) (v := ?_) rfl (Or.inl ⟨by rfl, ?_⟩) ?_
      rotate_left
      · intro Wq hSw
        obtain ⟨k0, k1⟩ := (HS0.out.2.2.1.below hSw).two
        clear hSw
        go_simp
        all_goals (with_reducible rfl)
      try simp only [Act.put, x2, x3, x4, x5, x6, x7]
      refine tk2 (i := 12) (v := ?_) rfl (Or.inl ⟨by rfl, ?_⟩) ?_
      rotate_left
      · intro Wq hSw
        obtain ⟨k0, k1⟩ := (HS0.out.2.1.below hSw).two
        clear hSw
        go_simp
        all_goals (with_reducible rfl)
      try simp only [Act.put, x2, x3, x4, x5, x6, x7]
      refine ry1 (i := 13) rfl (fun K hK => ?_)
      go_simp
      go_at_call 39
      (with_reducible refine (neg_num _ fr _ (HS0.out.2.2.2.2.1.below q1)).mono ?_); rintro e w1 ⟨vu, rfl, hNu, hb1⟩
      obtain ⟨mu, adu, nu, cu, rfl⟩ := hNu.shape
      have HNu := hi hNu
      clear hNu
      go_wp2_with fail
      refine hK.out _ _ (bl_trans q1 hb1) (fun q2 => ?_)
      clear hK K q1 hb1
      have q1 := q2
      clear q2
      try simp only [Act.put, x2, x3, x4, x5, x6, x7]
      refine ry1 (i := 14) rfl (fun K hK => ?_)
      go_simp
      go_at_call 40
      (with_reducible refine (cmp_n _ _ px (-fr) Gpx.out Gnfd.out _ (HS0.out.2.2.2.2.2.1.below q1) HNu.out).mono ?_)
      rintro e w1 ⟨rfl, hb1⟩
      generalize sg3 (px - -fr) = s3 at *
      go_wp2_with fail
      refine hK.out _ _ (bl_trans q1 hb1) (fun q2 => ?_)
      clear hK K q1 hb1
      have q1 := q2
      clear q2
      try simp only [Act.put, x2, x3, x4, x5, x6, x7]
      refine tk2 (i := 15) (v := ?_) rfl (Or.inl ⟨by rfl, ?_⟩) ?_
      rotate_left
      · intro Wq hSw
        clear hSw
        go_simp
        all_goals (with_reducible rfl)
      try simp only [Act.put, x2, x3, x4, x5, x6, x7]
      refine tk2 (i := 16) (v := ?_) rfl (Or.inl ⟨by rfl, ?_⟩) ?_
      rotate_left
      · intro Wq hSw
        clear hSw
        go_simp
        all_goals (with_reducible rfl)
      try simp only [Act.put, x2, x3, x4, x5, x6, x7]
      refine tk2 (i := 17) (v := ?_) rfl (Or.inl ⟨by rfl, ?_⟩) ?_
      rotate_left
      · intro Wq hSw
        clear hSw
        go_simp
        all_goals (with_reducible rfl)
      try simp only [Act.put, x2, x3, x4, x5, x6, x7]
      refine tk2 (i := 18) (v := ?_) rfl (Or.inl ⟨by rfl, ?_⟩) ?_
      rotate_left
      · intro Wq hSw
        obtain ⟨k0, k1⟩ := (HS0.out.2.2.2.1.below hSw).two
        clear hSw
        go_simp
        all_goals (with_reducible rfl)
      try simp only [Act.put, x2, x3, x4, x5, x6, x7]
      refine tk2 (i := 19) (v := ?_) rfl (Or.inl ⟨by rfl, ?_⟩) ?_
      rotate_left
      · intro Wq hSw
        obtain ⟨k0, k1⟩ := (HS0.out.2.1.below hSw).two
        clear hSw
        go_simp
        all_goals (with_reducible rfl)
      try simp only [Act.put, x2, x3, x4, x5, x6, x7]
      refine ry1 (i := 20) rfl (fun K hK => ?_)
      go_simp
      go_at_call 39
      (with_reducible refine (neg_num _ fr _ (HS0.out.2.2.2.2.1.below q1)).mono ?_); rintro e w1 ⟨vv, rfl, hNv, hb1⟩
      obtain ⟨mv, adv, nv, cv, rfl⟩ := hNv.shape
      have HNv := hi hNv
      clear hNv
      go_wp2_with fail
      refine hK.out _ _ (bl_trans q1 hb1) (fun q2 => ?_)
      clear hK K q1 hb1
      have q1 := q2
      clear q2
      try simp only [Act.put, x2, x3, x4, x5, x6, x7]
      refine ry1 (i := 21) rfl (fun K hK => ?_)
      go_simp
      go_at_call 40
      (with_reducible refine (cmp_n _ _ py (-fr) Gpy.out Gnfd.out _ (HS0.out.2.2.2.2.2.2.1.below q1) HNv.out).mono ?_)
      rintro e w1 ⟨rfl, hb1⟩
      generalize sg3 (py - -fr) = s4 at *
      go_wp2_with fail
      refine hK.out _ _ (bl_trans q1 hb1) (fun q2 => ?_)
      clear hK K q1 hb1
      have q1 := q2
      clear q2
      try simp only [Act.put, x2, x3, x4, x5, x6, x7]
      refine tk2 (i := 22) (v := ?_) rfl (Or.inl ⟨by rfl, ?_⟩) ?_
      rotate_left
      · intro Wq hSw
        clear hSw
        go_simp
        all_goals (with_reducible rfl)
      try simp only [Act.put, x2, x3, x4, x5, x6, x7]
      refine tk2 (i := 23) (v := ?_) rfl (Or.inl ⟨by rfl, ?_⟩) ?_
      rotate_left
      · intro Wq hSw
        clear hSw
        go_simp
        all_goals (with_reducible rfl)
      try simp only [Act.put, x2, x3, x4, x5, x6, x7]
      refine tk2 (i := 24) (v := ?_) rfl (Or.inl ⟨by rfl, ?_⟩) ?_
      rotate_left
      · intro Wq hSw
        clear hSw
        go_simp
        all_goals (with_reducible rfl)
      try simp only [Act.put, x2, x3, x4, x5, x6, x7]
      refine wpAnyH_done (by kernel_rfl) ?_ _
      go_wp2_with fail
      go_meet
      case rel => exact ⟨rfl, ⟨HS0.out.1.below q1, HS0.out.2.1.below q1, HS0.out.2.2.1.below q1, HS0.out.2.2.2.1.below q1, HS0.out.2.2.2.2.1.below q1, HS0.out.2.2.2.2.2.1.below q1, HS0.out.2.2.2.2.2.2.1.below q1, HS0.out.2.2.2.2.2.2.2.below q1⟩⟩
    case rest =>
    obtain ⟨rfl, hS0⟩ := hcut
    obtain ⟨c0, c1⟩ := hS0.1.two
    have e1 : p.x = 0 := by rw [HP0.out]
    have e2 : p.y = 0 := by rw [HP0.out]
    rw [e1] at c0
    rw [e2] at c1
    clear e1 e2 HP0
    have HG := hi hS0.2.2.2.2.2.2.2
    have E0 := EZ.out
    clear HS0 hS0 EZ ho K1 K2 K3 K4
    go_wp2_with (first
      | (go_at_call 21; (with_reducible refine (known3_l _).mono ?_); rintro e w2 ⟨rfl, hb2⟩)
      | go_in)
    go_ret
    exact ⟨rfl, (HG.out.below hb2).hb⟩

theorem pcentres_l (a b c : Pt) (w : World) : Calls Try.prog 8 #[.agg #[.int .i64 a.x, .int .i64 a.y], .agg #[.int .i64 b.x, .int .i64 b.y], .agg #[.int .i64 c.x, .int .i64 c.y]] w (Gives (.bool true) w) :=
  (pcA a b c w).property ⟨ (pcB a b c w).property ⟨ (pcC a b c w).property ⟨ (pcD a b c w).property ⟨ (pcE a b c w).property ⟨ (pcF a b c w).property ⟨ (pcG a b c w).property ⟨ (pcH a b c w).property ⟨ (pcI a b c w).property ⟨pcJ a b c w⟩⟩⟩⟩⟩⟩⟩⟩⟩
end Go.Proofs.Ytojfggnimmaemaa

namespace Go.Proofs.Ytojfggnimmaemaa.predCentres
open Go.ChangeShapes Go.WideShapes Go.ChangeAt Go.RowKit

theorem own : ownKnob Try.prog.godebug = none := by kernel_rfl

set_option maxRecDepth 100000 in
theorem lifted (os : Os) (started : os.Started) (H : Type) (enc : TypeId × Value → H) :
    ReturnsInHanded {} Try.checked os 8 .any (Rows.predCentresSpec.pre6 enc Try.prog Try.f8 Rows.predCentresRow.domain false) (Rows.predCentresSpec.post enc Try.prog Try.f8 false true false false) := by
  refine returnsInHanded_of_change (C := Try.checked) own started (by kernel_rfl) Try.func8
    (ChangeSpec.witness6 (enc := enc) (C := Try.checked) false ⟨#[], #[.agg #[.int .i64 0, .int .i64 0], .agg #[.int .i64 0, .int .i64 0], .agg #[.int .i64 0, .int .i64 0]], []⟩ 8 (by kernel_rfl) (by kernel_rfl) (by kernel_rfl) (by kernel_rfl)) ?_
  intro W base args ds gs before hval0 hW _ _
  have hval : ∀ (j : Nat) t v, Try.f8.params[j]? = some t → args[j]? = some v → Value.okWide Try.prog W .any base t v := hval0
  have hW' := hW
  obtain ⟨p, q, hA0, hV, rfl, -, -⟩ := hW
  have hA : DataW.TrodAll enc Try.prog W 0 (fun _ => true) true Try.f8.params.toList args.toList ds p := hA0
  rw [Try.params8] at hA hval
  obtain ⟨v0, vs0, d0, ds0, p0, q0, hargs0, rfl, rfl, h0, r0⟩ := trodAll_cons hA
  obtain ⟨v1, vs1, d1, ds1, p1, q1, hargs1, rfl, rfl, h1, r1⟩ := trodAll_cons r0
  obtain ⟨v2, vs2, d2, ds2, p2, q2, hargs2, rfl, rfl, h2, r2⟩ := trodAll_cons r1
  obtain ⟨rfl, rfl, rfl⟩ := trodAll_nil r2
  obtain rfl : args = #[v0, v1, v2] := by cases args; simp_all
  obtain ⟨rfl, rfl⟩ := trodVars_none hV
  obtain ⟨a0, rfl, rfl, rfl, wx0, wy0⟩ := open_pt (hval 0 23 v0 rfl rfl) h0
  obtain ⟨a1, rfl, rfl, rfl, wx1, wy1⟩ := open_pt (hval 1 23 v1 rfl rfl) h1
  obtain ⟨a2, rfl, rfl, rfl, wx2, wy2⟩ := open_pt (hval 2 23 v2 rfl rfl) h2
  clear hA0 hval0
  simp only [List.append_nil] at hW'
  refine (pcentres_l a0 a1 a2 W).mono fun e W' h => ?_
  obtain ⟨he, hb⟩ := h
  subst he
  exact ⟨_, rfl, _, _, _, [], [], [], hW', trodAll_cons_mk (shut_bool Try.underlying4 _) trodAll_mk0, (trodAll_cons_mk (p := []) (p' := []) (shut_pt wx0 wy0) (trodAll_cons_mk (p := []) (p' := []) (shut_pt wx1 wy1) (trodAll_cons_mk (p := []) (p' := []) (shut_pt wx2 wy2) trodAll_mk0))), rfl, hb.frame _, fun h => by cases h⟩

theorem proved : Rows.PredCentresSaid :=
  OpenClaim.holds_of_wide 8 Try.f8 rfl rfl rfl rfl rfl rfl rfl ⟨rfl, rfl, rfl, rfl, rfl⟩ rfl rfl rfl rfl rfl (by kernel_rfl) Try.func8 (by kernel_rfl)
    (of_decide_eq_true (by kernel_rfl)) (by unfold Func.isWrapper; first | (rw [if_pos (by decide +kernel)]; kernel_rfl) | (rw [if_neg (by decide +kernel)]; exact ⟨rfl, rfl⟩))
    (fun os started H enc _ => lifted os started H enc)
end Go.Proofs.Ytojfggnimmaemaa.predCentres
