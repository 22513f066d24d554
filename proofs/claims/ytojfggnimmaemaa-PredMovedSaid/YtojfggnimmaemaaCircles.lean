/-
  Contract of pred's lifted.
-/
import Derived.Test.YtojfggnimmaemaaGeoAll
namespace Go.Proofs.Ytojfggnimmaemaa
open Go.RowKit

set_option maxHeartbeats 4000000 in
set_option maxRecDepth 100000 in
theorem lifted_l (ux uy vx vy tx ty : Int) (hux : Ab ux 8589934592) (huy : Ab uy 8589934592) (hvx : Ab vx 8589934592) (hvy : Ab vy 8589934592) (htx : Ab tx 8589934592) (hty : Ab ty 8589934592) (w : World) : Calls Try.prog 60 #[.agg #[.int .i64 ux, .int .i64 uy], .agg #[.int .i64 vx, .int .i64 vy], .agg #[.int .i64 tx, .int .i64 ty]] w
    (Gives (.agg #[.bool (QM ((ux * ux + uy * uy) * (vx * ty - vy * tx) + (vx * vx + vy * vy) * (tx * uy - ty * ux) + (tx * tx + ty * ty) * (ux * vy - uy * vx))), .int .u64 (Q0 ((ux * ux + uy * uy) * (vx * ty - vy * tx) + (vx * vx + vy * vy) * (tx * uy - ty * ux) + (tx * tx + ty * ty) * (ux * vy - uy * vx))), .int .u64 (Q1 ((ux * ux + uy * uy) * (vx * ty - vy * tx) + (vx * vx + vy * vy) * (tx * uy - ty * ux) + (tx * tx + ty * ty) * (ux * vy - uy * vx))), .int .u64 (Q2 ((ux * ux + uy * uy) * (vx * ty - vy * tx) + (vx * vx + vy * vy) * (tx * uy - ty * ux) + (tx * tx + ty * ty) * (ux * vy - uy * vx))), .int .u64 (Q3 ((ux * ux + uy * uy) * (vx * ty - vy * tx) + (vx * vx + vy * vy) * (tx * uy - ty * ux) + (tx * tx + ty * ty) * (ux * vy - uy * vx)))]) w) := by
  have Hux := hi (hux.r64 (by decide))
  have Huy := hi (huy.r64 (by decide))
  have Hvx := hi (hvx.r64 (by decide))
  have Hvy := hi (hvy.r64 (by decide))
  have Htx := hi (htx.r64 (by decide))
  have Hty := hi (hty.r64 (by decide))
  have qu := (hux.mul hux).add (huy.mul huy)
  have Su := hi (qu.b127 (by decide))
  have qv := (hvx.mul hvx).add (hvy.mul hvy)
  have Sv := hi (qv.b127 (by decide))
  have qt := (htx.mul htx).add (hty.mul hty)
  have St := hi (qt.b127 (by decide))
  have cvt := (hvx.mul hty).sub (hvy.mul htx)
  have Cvt := hi (cvt.b127 (by decide))
  have ctu := (htx.mul huy).sub (hty.mul hux)
  have Ctu := hi (ctu.b127 (by decide))
  have cuv := (hux.mul hvy).sub (huy.mul hvx)
  have Cuv := hi (cuv.b127 (by decide))
  have p1 := qu.mul cvt
  have BW1 := hi (p1.bw (by decide))
  have p2 := qv.mul ctu
  have BW2 := hi (p2.bw (by decide))
  have p3 := qt.mul cuv
  have BW3 := hi (p3.bw (by decide))
  have p4 := p1.add p2
  have BW4 := hi (p4.bw (by decide))
  have p5 := p4.add p3
  have BW5 := hi (p5.bw (by decide))
  clear p1 p2 p3 p4 p5 qu qv qt cvt ctu cuv hux huy hvx hvy htx hty
  go_enter Try.func60, Try.ntmps60
  go_upto_region 1 with (fail)
  refine wp_abs (fun W => Var W (w.heap.size) [.int .i64 ux, .int .i64 uy] ∧ Var W (w.heap.size + 1) [.int .i64 vx, .int .i64 vy] ∧ Var W (w.heap.size + 2) [.int .i64 tx, .int .i64 ty] ∧ Slot5 W (w.heap.size + 3) ∧ Grew w 4 W) ?_ ?_
  · exact ⟨(var2_new _ _ _ _ _ rfl).below (bl_alloc (bl_alloc (bl_one _ _) _) _), (var2_new _ _ _ _ _ (by simp)).below (bl_alloc (bl_one _ _) _), (var2_new _ _ _ _ _ (by simp)).below (bl_one _ _), ⟨_, _, _, _, _, var5_new _ _ _ _ _ _ _ _ (by simp)⟩, by repeat (first | (with_reducible exact Below.refl _ _) | (with_reducible refine bl_alloc ?_ _) | (with_reducible refine Below.drew ?_) | (with_reducible refine below_drewN' ?_ _) | ((with_reducible refine bl_set ?_ ?_ _); (rotate_left; (dsimp only; omega)))), by simp⟩
  rintro W0 hS0
  have HS0 := hi hS0
  clear hS0
  go_cut [7] (fun pv W => ∃ g, pv = .pointer (some ⟨g, 0, none⟩) ∧ Var W g [.bool (QM ((ux * ux + uy * uy) * (vx * ty - vy * tx) + (vx * vx + vy * vy) * (tx * uy - ty * ux) + (tx * tx + ty * ty) * (ux * vy - uy * vx))), .int .u64 (Q0 ((ux * ux + uy * uy) * (vx * ty - vy * tx) + (vx * vx + vy * vy) * (tx * uy - ty * ux) + (tx * tx + ty * ty) * (ux * vy - uy * vx))), .int .u64 (Q1 ((ux * ux + uy * uy) * (vx * ty - vy * tx) + (vx * vx + vy * vy) * (tx * uy - ty * ux) + (tx * tx + ty * ty) * (ux * vy - uy * vx))), .int .u64 (Q2 ((ux * ux + uy * uy) * (vx * ty - vy * tx) + (vx * vx + vy * vy) * (tx * uy - ty * ux) + (tx * tx + ty * ty) * (ux * vy - uy * vx))), .int .u64 (Q3 ((ux * ux + uy * uy) * (vx * ty - vy * tx) + (vx * vx + vy * vy) * (tx * uy - ty * ux) + (tx * tx + ty * ty) * (ux * vy - uy * vx)))] ∧ (fun W => Var W (w.heap.size) [.int .i64 ux, .int .i64 uy] ∧ Var W (w.heap.size + 1) [.int .i64 vx, .int .i64 vy] ∧ Var W (w.heap.size + 2) [.int .i64 tx, .int .i64 ty] ∧ Slot5 W (w.heap.size + 3) ∧ Grew w 4 W) W)
  case first =>
    refine wp_region_held_drew (S := fun W => Var W (w.heap.size) [.int .i64 ux, .int .i64 uy] ∧ Var W (w.heap.size + 1) [.int .i64 vx, .int .i64 vy] ∧ Var W (w.heap.size + 2) [.int .i64 tx, .int .i64 ty] ∧ Slot5 W (w.heap.size + 3) ∧ Grew w 4 W) (by kernel_rfl) ?_ (fun q1 => ?_)
    · exact ⟨HS0.out.1.below (bel_drew _), HS0.out.2.1.below (bel_drew _), HS0.out.2.2.1.below (bel_drew _), HS0.out.2.2.2.1.below (bel_drew _), HS0.out.2.2.2.2.below (bel_drew _)⟩
    revert q1
    generalize World.drew _ = W1
    intro q1 
    refine tk (i := 0) (v := ?_) rfl (Or.inl ⟨by rfl, ?_⟩) ?_
    rotate_left
    · intro Wq hSw
      obtain ⟨k0, k1⟩ := (id hSw).1.two
      clear hSw
      go_simp
      all_goals (with_reducible rfl)
    try simp only [Act.put, x2, x4, x5, x6, x7]
    refine tk (i := 2) (v := ?_) rfl (Or.inl ⟨by rfl, ?_⟩) ?_
    rotate_left
    · intro Wq hSw
      obtain ⟨k0, k1⟩ := (id hSw).2.1.two
      clear hSw
      go_simp
      all_goals (with_reducible rfl)
    try simp only [Act.put, x2, x3, x4, x5, x6, x7]
    refine tk (i := 3) (v := ?_) rfl (Or.inl ⟨by rfl, ?_⟩) ?_
    rotate_left
    · intro Wq hSw
      obtain ⟨k0, k1⟩ := (id hSw).2.2.1.two
      clear hSw
      go_simp
      all_goals (with_reducible rfl)
    try simp only [Act.put, x2, x3, x4, x5, x6, x7]
    refine tk (i := 6) (v := ?_) rfl (Or.inl ⟨by rfl, ?_⟩) ?_
    rotate_left
    · intro Wq hSw
      obtain ⟨k0, k1⟩ := (id hSw).2.1.two
      clear hSw
      go_simp
      all_goals (with_reducible rfl)
    try simp only [Act.put, x2, x3, x4, x5, x6, x7]
    refine tk (i := 8) (v := ?_) rfl (Or.inl ⟨by rfl, ?_⟩) ?_
    rotate_left
    · intro Wq hSw
      obtain ⟨k0, k1⟩ := (id hSw).2.2.1.two
      clear hSw
      go_simp
      all_goals (with_reducible rfl)
    try simp only [Act.put, x2, x3, x4, x5, x6, x7]
    refine tk (i := 9) (v := ?_) rfl (Or.inl ⟨by rfl, ?_⟩) ?_
    rotate_left
    · intro Wq hSw
      obtain ⟨k0, k1⟩ := (id hSw).1.two
      clear hSw
      go_simp
      all_goals (with_reducible rfl)
    try simp only [Act.put, x2, x3, x4, x5, x6, x7]
    refine tk (i := 12) (v := ?_) rfl (Or.inl ⟨by rfl, ?_⟩) ?_
    rotate_left
    · intro Wq hSw
      obtain ⟨k0, k1⟩ := (id hSw).2.2.1.two
      clear hSw
      go_simp
      all_goals (with_reducible rfl)
    try simp only [Act.put, x2, x3, x4, x5, x6, x7]
    refine tk (i := 14) (v := ?_) rfl (Or.inl ⟨by rfl, ?_⟩) ?_
    rotate_left
    · intro Wq hSw
      obtain ⟨k0, k1⟩ := (id hSw).1.two
      clear hSw
      go_simp
      all_goals (with_reducible rfl)
    try simp only [Act.put, x2, x3, x4, x5, x6, x7]
    refine tk (i := 15) (v := ?_) rfl (Or.inl ⟨by rfl, ?_⟩) ?_
    rotate_left
    · intro Wq hSw
      obtain ⟨k0, k1⟩ := (id hSw).2.1.two
      clear hSw
      go_simp
      all_goals (with_reducible rfl)
    try simp only [Act.put, x2, x3, x4, x5, x6, x7]
    refine r2 (i := 1) (j := 23) rfl (fun K hK => ?_) rfl (fun K hK => ?_)
    · go_simp
      go_at_call 64
      (with_reducible refine (square_l _ _ Hux.out Huy.out _).mono ?_); rintro e w1 ⟨rfl, hb1⟩
      go_wp2_with fail
      refine hK.out _ _ ?_ (fun q2 => ?_)
      · exact ⟨(id q1).1.below hb1, (id q1).2.1.below hb1, (id q1).2.2.1.below hb1, (id q1).2.2.2.1.below hb1, (id q1).2.2.2.2.below hb1⟩
      clear hK K q1 hb1
      have q1 := q2
      clear q2
      try simp only [Act.put, x2, x3, x4, x5, x6, x7]
      refine r2 (i := 4) (j := 23) rfl (fun K hK => ?_) rfl (fun K hK => ?_)
      · go_simp
        go_at_call 55
        (with_reducible refine (cross_l _ _ _ _ Hvx.out Hvy.out Htx.out Hty.out _).mono ?_); rintro e w1 ⟨rfl, hb1⟩
        go_wp2_with fail
        refine hK.out _ _ ?_ (fun q2 => ?_)
        · exact ⟨(id q1).1.below hb1, (id q1).2.1.below hb1, (id q1).2.2.1.below hb1, (id q1).2.2.2.1.below hb1, (id q1).2.2.2.2.below hb1⟩
        clear hK K q1 hb1
        have q1 := q2
        clear q2
        try simp only [Act.put, x2, x3, x4, x5, x6, x7]
        refine r2 (i := 5) (j := 23) rfl (fun K hK => ?_) rfl (fun K hK => ?_)
        · go_simp
          go_at_call 66
          (with_reducible refine (product_l _ _ Su.out Cvt.out _).mono ?_); rintro e w1 ⟨rfl, hb1⟩
          go_wp2_with fail
          refine hK.out _ _ ?_ (fun q2 => ?_)
          · exact ⟨(id q1).1.below hb1, (id q1).2.1.below hb1, (id q1).2.2.1.below hb1, (id q1).2.2.2.1.below hb1, (id q1).2.2.2.2.below hb1⟩
          clear hK K q1 hb1
          have q1 := q2
          clear q2
          try simp only [Act.put, x2, x3, x4, x5, x6, x7]
          refine r2 (i := 7) (j := 23) rfl (fun K hK => ?_) rfl (fun K hK => ?_)
          · go_simp
            go_at_call 64
            (with_reducible refine (square_l _ _ Hvx.out Hvy.out _).mono ?_); rintro e w1 ⟨rfl, hb1⟩
            go_wp2_with fail
            refine hK.out _ _ ?_ (fun q2 => ?_)
            · exact ⟨(id q1).1.below hb1, (id q1).2.1.below hb1, (id q1).2.2.1.below hb1, (id q1).2.2.2.1.below hb1, (id q1).2.2.2.2.below hb1⟩
            clear hK K q1 hb1
            have q1 := q2
            clear q2
            try simp only [Act.put, x2, x3, x4, x5, x6, x7]
            refine r2 (i := 10) (j := 23) rfl (fun K hK => ?_) rfl (fun K hK => ?_)
            · go_simp
              go_at_call 55
              (with_reducible refine (cross_l _ _ _ _ Htx.out Hty.out Hux.out Huy.out _).mono ?_); rintro e w1 ⟨rfl, hb1⟩
              go_wp2_with fail
              refine hK.out _ _ ?_ (fun q2 => ?_)
              · exact ⟨(id q1).1.below hb1, (id q1).2.1.below hb1, (id q1).2.2.1.below hb1, (id q1).2.2.2.1.below hb1, (id q1).2.2.2.2.below hb1⟩
              clear hK K q1 hb1
              have q1 := q2
              clear q2
              try simp only [Act.put, x2, x3, x4, x5, x6, x7]
              refine r2 (i := 11) (j := 23) rfl (fun K hK => ?_) rfl (fun K hK => ?_)
              · go_simp
                go_at_call 66
                (with_reducible refine (product_l _ _ Sv.out Ctu.out _).mono ?_); rintro e w1 ⟨rfl, hb1⟩
                go_wp2_with fail
                refine hK.out _ _ ?_ (fun q2 => ?_)
                · exact ⟨(id q1).1.below hb1, (id q1).2.1.below hb1, (id q1).2.2.1.below hb1, (id q1).2.2.2.1.below hb1, (id q1).2.2.2.2.below hb1⟩
                clear hK K q1 hb1
                have q1 := q2
                clear q2
                try simp only [Act.put, x2, x3, x4, x5, x6, x7]
                refine r2 (i := 13) (j := 23) rfl (fun K hK => ?_) rfl (fun K hK => ?_)
                · go_simp
                  go_at_call 64
                  (with_reducible refine (square_l _ _ Htx.out Hty.out _).mono ?_); rintro e w1 ⟨rfl, hb1⟩
                  go_wp2_with fail
                  refine hK.out _ _ ?_ (fun q2 => ?_)
                  · exact ⟨(id q1).1.below hb1, (id q1).2.1.below hb1, (id q1).2.2.1.below hb1, (id q1).2.2.2.1.below hb1, (id q1).2.2.2.2.below hb1⟩
                  clear hK K q1 hb1
                  have q1 := q2
                  clear q2
                  try simp only [Act.put, x2, x3, x4, x5, x6, x7]
                  refine r2 (i := 16) (j := 23) rfl (fun K hK => ?_) rfl (fun K hK => ?_)
                  · go_simp
                    go_at_call 55
                    (with_reducible refine (cross_l _ _ _ _ Hux.out Huy.out Hvx.out Hvy.out _).mono ?_); rintro e w1 ⟨rfl, hb1⟩
                    go_wp2_with fail
                    refine hK.out _ _ ?_ (fun q2 => ?_)
                    · exact ⟨(id q1).1.below hb1, (id q1).2.1.below hb1, (id q1).2.2.1.below hb1, (id q1).2.2.2.1.below hb1, (id q1).2.2.2.2.below hb1⟩
                    clear hK K q1 hb1
                    have q1 := q2
                    clear q2
                    try simp only [Act.put, x2, x3, x4, x5, x6, x7]
                    refine r2 (i := 17) (j := 23) rfl (fun K hK => ?_) rfl (fun K hK => ?_)
                    · go_simp
                      go_at_call 66
                      (with_reducible refine (product_l _ _ St.out Cuv.out _).mono ?_); rintro e w1 ⟨rfl, hb1⟩
                      go_wp2_with fail
                      refine hK.out _ _ ?_ (fun q2 => ?_)
                      · exact ⟨(id q1).1.below hb1, (id q1).2.1.below hb1, (id q1).2.2.1.below hb1, (id q1).2.2.2.1.below hb1, (id q1).2.2.2.2.below hb1⟩
                      clear hK K q1 hb1
                      have q1 := q2
                      clear q2
                      try simp only [Act.put, x2, x3, x4, x5, x6, x7]
                      refine r2 (i := 18) (j := 23) rfl (fun K hK => ?_) rfl (fun K hK => ?_)
                      · go_simp
                        refine hK.out _ _ ?_ (fun q2 => ?_)
                        · exact ⟨(id q1).1.below (bl_one _ _), (id q1).2.1.below (bl_one _ _), (id q1).2.2.1.below (bl_one _ _), (id q1).2.2.2.1.below (bl_one _ _), (id q1).2.2.2.2.below (bl_one _ _)⟩
                        have HL := hL_of (id q1).2.2.2.2 (fun W => wides3_wd W ((ux * ux + uy * uy) * (vx * ty - vy * tx)) ((vx * vx + vy * vy) * (tx * uy - ty * ux)) ((tx * tx + ty * ty) * (ux * vy - uy * vx)) 73)
                        clear hK K q1
                        have q1 := q2
                        clear q2
                        try simp only [Act.put, x2, x3, x4, x5, x6, x7]
                        revert HL
                        revert q1
                        generalize World.alloc _ _ = W2
                        intro q1 HL
                        refine r2 (i := 19) (j := 23) rfl (fun K hK => ?_) rfl (fun K hK => ?_)
                        · go_simp
                          go_at_call 83
                          (with_reducible refine (addQ3 _ _ _ BW1.out BW2.out BW3.out BW4.out BW5.out _ _ _ HL.out).mono ?_); rintro e w1 ⟨rfl, hb1⟩
                          go_wp2_with fail
                          refine hK.out _ _ ?_ (fun q2 => ?_)
                          · exact ⟨(id q1).1.below hb1, (id q1).2.1.below hb1, (id q1).2.2.1.below hb1, (id q1).2.2.2.1.below hb1, (id q1).2.2.2.2.below hb1⟩
                          replace HL := hi (HL.out.below hb1)
                          clear hK K q1 hb1
                          have q1 := q2
                          clear q2
                          try simp only [Act.put, x2, x3, x4, x5, x6, x7]
                          refine tk (i := 20) (v := ?_) rfl (Or.inl ⟨by rfl, ?_⟩) ?_
                          rotate_left
                          · intro Wq hSw
                            clear hSw
                            go_simp
                            all_goals (with_reducible rfl)
                          try simp only [Act.put, x2, x3, x4, x5, x6, x7]
                          refine tk (i := 21) (v := ?_) rfl (Or.inl ⟨by rfl, ?_⟩) ?_
                          rotate_left
                          · intro Wq hSw
                            clear hSw
                            go_simp
                            all_goals (with_reducible rfl)
                          try simp only [Act.put, x2, x3, x4, x5, x6, x7]
                          refine tk (i := 22) (v := ?_) rfl (Or.inl ⟨by rfl, ?_⟩) ?_
                          rotate_left
                          · intro Wq hSw
                            clear hSw
                            go_simp
                            all_goals (with_reducible rfl)
                          try simp only [Act.put, x2, x3, x4, x5, x6, x7]
                          refine r1 (i := 23) rfl (fun K hK => ?_)
                          go_simp
                          refine hK.out _ _ ?_ (fun q2 => ?_)
                          · exact ⟨(id q1).1.below (bl_one _ _), (id q1).2.1.below (bl_one _ _), (id q1).2.2.1.below (bl_one _ _), (id q1).2.2.2.1.below (bl_one _ _), (id q1).2.2.2.2.below (bl_one _ _)⟩
                          replace HL := hi (HL.out.below (al_of (id q2).2.2.2.2 (bl_one _ _)))
                          have hge := (id q1).2.2.2.2.sz
                          have HN := hi ((id q1).2.2.2.2.var5 (.bool false) (.int .u64 0) (.int .u64 0) (.int .u64 0) (.int .u64 0) 73)
                          clear hK K q1
                          have q1 := q2
                          clear q2
                          try simp only [Act.put, x2, x3, x4, x5, x6, x7]
                          revert HL
                          revert HN
                          revert q1
                          generalize World.alloc _ _ = W2
                          intro q1 HN HL
                          refine r1 (i := 24) rfl (fun K hK => ?_)
                          obtain ⟨k0, k1, k2, k3, k4⟩ := HN.out.five
                          obtain ⟨f0, f1, f2, f3, f4⟩ := HN.out.free5
                          go_simp
                          refine hK.out _ _ ?_ (fun q2 => ?_)
                          · exact ⟨((((((id q1).1.far (by dsimp only; omega) _).far (by dsimp only; omega) _).far (by dsimp only; omega) _).far (by dsimp only; omega) _).far (by dsimp only; omega) _), ((((((id q1).2.1.far (by dsimp only; omega) _).far (by dsimp only; omega) _).far (by dsimp only; omega) _).far (by dsimp only; omega) _).far (by dsimp only; omega) _), ((((((id q1).2.2.1.far (by dsimp only; omega) _).far (by dsimp only; omega) _).far (by dsimp only; omega) _).far (by dsimp only; omega) _).far (by dsimp only; omega) _), ((((((id q1).2.2.2.1.far (by dsimp only; omega) _).far (by dsimp only; omega) _).far (by dsimp only; omega) _).far (by dsimp only; omega) _).far (by dsimp only; omega) _), ((((((id q1).2.2.2.2.set (by dsimp only; omega) _).set (by dsimp only; omega) _).set (by dsimp only; omega) _).set (by dsimp only; omega) _).set (by dsimp only; omega) _)⟩
                          have VN := hi (HN.out.set5 (.bool (QM ((ux * ux + uy * uy) * (vx * ty - vy * tx) + (vx * vx + vy * vy) * (tx * uy - ty * ux) + (tx * tx + ty * ty) * (ux * vy - uy * vx)))) (.int .u64 (Q0 ((ux * ux + uy * uy) * (vx * ty - vy * tx) + (vx * vx + vy * vy) * (tx * uy - ty * ux) + (tx * tx + ty * ty) * (ux * vy - uy * vx)))) (.int .u64 (Q1 ((ux * ux + uy * uy) * (vx * ty - vy * tx) + (vx * vx + vy * vy) * (tx * uy - ty * ux) + (tx * tx + ty * ty) * (ux * vy - uy * vx)))) (.int .u64 (Q2 ((ux * ux + uy * uy) * (vx * ty - vy * tx) + (vx * vx + vy * vy) * (tx * uy - ty * ux) + (tx * tx + ty * ty) * (ux * vy - uy * vx)))) (.int .u64 (Q3 ((ux * ux + uy * uy) * (vx * ty - vy * tx) + (vx * vx + vy * vy) * (tx * uy - ty * ux) + (tx * tx + ty * ty) * (ux * vy - uy * vx)))))
                          clear HL
                          clear hK K q1 HN k0 k1 k2 k3 k4 f0 f1 f2 f3 f4
                          have q1 := q2
                          clear q2
                          try simp only [Act.put, x2, x3, x4, x5, x6, x7]
                          refine tk (i := 25) (v := ?_) rfl (Or.inl ⟨by rfl, ?_⟩) ?_
                          rotate_left
                          · intro Wq hSw
                            clear hSw
                            go_simp
                            all_goals (with_reducible rfl)
                          try simp only [Act.put, x2, x3, x4, x5, x6, x7]
                          refine wpAnyH_done (by kernel_rfl) ?_ _
                          go_wp2_with fail
                          go_meet
                          case rel => exact ⟨_, rfl, VN.out, id q1⟩
                        · go_simp
                          refine hK.out _ _ ?_ (fun q2 => ?_)
                          · exact ⟨(id q1).1.below (bl_one _ _), (id q1).2.1.below (bl_one _ _), (id q1).2.2.1.below (bl_one _ _), (id q1).2.2.2.1.below (bl_one _ _), (id q1).2.2.2.2.below (bl_one _ _)⟩
                          replace HL := hi (HL.out.below (al_of (id q2).2.2.2.2 (bl_one _ _)))
                          have hge := (id q1).2.2.2.2.sz
                          have HN := hi ((id q1).2.2.2.2.var5 (.bool false) (.int .u64 0) (.int .u64 0) (.int .u64 0) (.int .u64 0) 73)
                          clear hK K q1
                          have q1 := q2
                          clear q2
                          try simp only [Act.put, x2, x3, x4, x5, x6, x7]
                          revert HL
                          revert HN
                          revert q1
                          generalize World.alloc _ _ = W2
                          intro q1 HN HL
                          refine r1 (i := 19) rfl (fun K hK => ?_)
                          go_simp
                          go_at_call 83
                          (with_reducible refine (addQ3 _ _ _ BW1.out BW2.out BW3.out BW4.out BW5.out _ _ _ HL.out).mono ?_); rintro e w1 ⟨rfl, hb1⟩
                          go_wp2_with fail
                          refine hK.out _ _ ?_ (fun q2 => ?_)
                          · exact ⟨(id q1).1.below hb1, (id q1).2.1.below hb1, (id q1).2.2.1.below hb1, (id q1).2.2.2.1.below hb1, (id q1).2.2.2.2.below hb1⟩
                          replace HL := hi (HL.out.below hb1)
                          replace HN := hi (HN.out.below hb1)
                          clear hK K q1 hb1
                          have q1 := q2
                          clear q2
                          try simp only [Act.put, x2, x3, x4, x5, x6, x7]
                          refine tk (i := 20) (v := ?_) rfl (Or.inl ⟨by rfl, ?_⟩) ?_
                          rotate_left
                          · intro Wq hSw
                            clear hSw
                            go_simp
                            all_goals (with_reducible rfl)
                          try simp only [Act.put, x2, x3, x4, x5, x6, x7]
                          refine tk (i := 21) (v := ?_) rfl (Or.inl ⟨by rfl, ?_⟩) ?_
                          rotate_left
                          · intro Wq hSw
                            clear hSw
                            go_simp
                            all_goals (with_reducible rfl)
                          try simp only [Act.put, x2, x3, x4, x5, x6, x7]
                          refine tk (i := 22) (v := ?_) rfl (Or.inl ⟨by rfl, ?_⟩) ?_
                          rotate_left
                          · intro Wq hSw
                            clear hSw
                            go_simp
                            all_goals (with_reducible rfl)
                          try simp only [Act.put, x2, x3, x4, x5, x6, x7]
                          refine r1 (i := 24) rfl (fun K hK => ?_)
                          obtain ⟨k0, k1, k2, k3, k4⟩ := HN.out.five
                          obtain ⟨f0, f1, f2, f3, f4⟩ := HN.out.free5
                          go_simp
                          refine hK.out _ _ ?_ (fun q2 => ?_)
                          · exact ⟨((((((id q1).1.far (by dsimp only; omega) _).far (by dsimp only; omega) _).far (by dsimp only; omega) _).far (by dsimp only; omega) _).far (by dsimp only; omega) _), ((((((id q1).2.1.far (by dsimp only; omega) _).far (by dsimp only; omega) _).far (by dsimp only; omega) _).far (by dsimp only; omega) _).far (by dsimp only; omega) _), ((((((id q1).2.2.1.far (by dsimp only; omega) _).far (by dsimp only; omega) _).far (by dsimp only; omega) _).far (by dsimp only; omega) _).far (by dsimp only; omega) _), ((((((id q1).2.2.2.1.far (by dsimp only; omega) _).far (by dsimp only; omega) _).far (by dsimp only; omega) _).far (by dsimp only; omega) _).far (by dsimp only; omega) _), ((((((id q1).2.2.2.2.set (by dsimp only; omega) _).set (by dsimp only; omega) _).set (by dsimp only; omega) _).set (by dsimp only; omega) _).set (by dsimp only; omega) _)⟩
                          have VN := hi (HN.out.set5 (.bool (QM ((ux * ux + uy * uy) * (vx * ty - vy * tx) + (vx * vx + vy * vy) * (tx * uy - ty * ux) + (tx * tx + ty * ty) * (ux * vy - uy * vx)))) (.int .u64 (Q0 ((ux * ux + uy * uy) * (vx * ty - vy * tx) + (vx * vx + vy * vy) * (tx * uy - ty * ux) + (tx * tx + ty * ty) * (ux * vy - uy * vx)))) (.int .u64 (Q1 ((ux * ux + uy * uy) * (vx * ty - vy * tx) + (vx * vx + vy * vy) * (tx * uy - ty * ux) + (tx * tx + ty * ty) * (ux * vy - uy * vx)))) (.int .u64 (Q2 ((ux * ux + uy * uy) * (vx * ty - vy * tx) + (vx * vx + vy * vy) * (tx * uy - ty * ux) + (tx * tx + ty * ty) * (ux * vy - uy * vx)))) (.int .u64 (Q3 ((ux * ux + uy * uy) * (vx * ty - vy * tx) + (vx * vx + vy * vy) * (tx * uy - ty * ux) + (tx * tx + ty * ty) * (ux * vy - uy * vx)))))
                          clear HL
                          clear hK K q1 HN k0 k1 k2 k3 k4 f0 f1 f2 f3 f4
                          have q1 := q2
                          clear q2
                          try simp only [Act.put, x2, x3, x4, x5, x6, x7]
                          refine tk (i := 25) (v := ?_) rfl (Or.inl ⟨by rfl, ?_⟩) ?_
                          rotate_left
                          · intro Wq hSw
                            clear hSw
                            go_simp
                            all_goals (with_reducible rfl)
                          try simp only [Act.put, x2, x3, x4, x5, x6, x7]
                          refine wpAnyH_done (by kernel_rfl) ?_ _
                          go_wp2_with fail
                          go_meet
                          case rel => exact ⟨_, rfl, VN.out, id q1⟩
                      · go_simp
                        refine hK.out _ _ ?_ (fun q2 => ?_)
                        · exact ⟨(id q1).1.below (bl_one _ _), (id q1).2.1.below (bl_one _ _), (id q1).2.2.1.below (bl_one _ _), (id q1).2.2.2.1.below (bl_one _ _), (id q1).2.2.2.2.below (bl_one _ _)⟩
                        have hge := (id q1).2.2.2.2.sz
                        have HN := hi ((id q1).2.2.2.2.var5 (.bool false) (.int .u64 0) (.int .u64 0) (.int .u64 0) (.int .u64 0) 73)
                        clear hK K q1
                        have q1 := q2
                        clear q2
                        try simp only [Act.put, x2, x3, x4, x5, x6, x7]
                        revert HN
                        revert q1
                        generalize World.alloc _ _ = W2
                        intro q1 HN
                        refine r1 (i := 18) rfl (fun K hK => ?_)
                        go_simp
                        refine hK.out _ _ ?_ (fun q2 => ?_)
                        · exact ⟨(id q1).1.below (bl_one _ _), (id q1).2.1.below (bl_one _ _), (id q1).2.2.1.below (bl_one _ _), (id q1).2.2.2.1.below (bl_one _ _), (id q1).2.2.2.2.below (bl_one _ _)⟩
                        replace HN := hi (HN.out.below (al_of (id q2).2.2.2.2 (bl_one _ _)))
                        have HL := hL_of (id q1).2.2.2.2 (fun W => wides3_wd W ((ux * ux + uy * uy) * (vx * ty - vy * tx)) ((vx * vx + vy * vy) * (tx * uy - ty * ux)) ((tx * tx + ty * ty) * (ux * vy - uy * vx)) 73)
                        clear hK K q1
                        have q1 := q2
                        clear q2
                        try simp only [Act.put, x2, x3, x4, x5, x6, x7]
                        revert HN
                        revert HL
                        revert q1
                        generalize World.alloc _ _ = W2
                        intro q1 HL HN
                        refine r1 (i := 19) rfl (fun K hK => ?_)
                        go_simp
                        go_at_call 83
                        (with_reducible refine (addQ3 _ _ _ BW1.out BW2.out BW3.out BW4.out BW5.out _ _ _ HL.out).mono ?_); rintro e w1 ⟨rfl, hb1⟩
                        go_wp2_with fail
                        refine hK.out _ _ ?_ (fun q2 => ?_)
                        · exact ⟨(id q1).1.below hb1, (id q1).2.1.below hb1, (id q1).2.2.1.below hb1, (id q1).2.2.2.1.below hb1, (id q1).2.2.2.2.below hb1⟩
                        replace HN := hi (HN.out.below hb1)
                        replace HL := hi (HL.out.below hb1)
                        clear hK K q1 hb1
                        have q1 := q2
                        clear q2
                        try simp only [Act.put, x2, x3, x4, x5, x6, x7]
                        refine tk (i := 20) (v := ?_) rfl (Or.inl ⟨by rfl, ?_⟩) ?_
                        rotate_left
                        · intro Wq hSw
                          clear hSw
                          go_simp
                          all_goals (with_reducible rfl)
                        try simp only [Act.put, x2, x3, x4, x5, x6, x7]
                        refine tk (i := 21) (v := ?_) rfl (Or.inl ⟨by rfl, ?_⟩) ?_
                        rotate_left
                        · intro Wq hSw
                          clear hSw
                          go_simp
                          all_goals (with_reducible rfl)
                        try simp only [Act.put, x2, x3, x4, x5, x6, x7]
                        refine tk (i := 22) (v := ?_) rfl (Or.inl ⟨by rfl, ?_⟩) ?_
                        rotate_left
                        · intro Wq hSw
                          clear hSw
                          go_simp
                          all_goals (with_reducible rfl)
                        try simp only [Act.put, x2, x3, x4, x5, x6, x7]
                        refine r1 (i := 24) rfl (fun K hK => ?_)
                        obtain ⟨k0, k1, k2, k3, k4⟩ := HN.out.five
                        obtain ⟨f0, f1, f2, f3, f4⟩ := HN.out.free5
                        go_simp
                        refine hK.out _ _ ?_ (fun q2 => ?_)
                        · exact ⟨((((((id q1).1.far (by dsimp only; omega) _).far (by dsimp only; omega) _).far (by dsimp only; omega) _).far (by dsimp only; omega) _).far (by dsimp only; omega) _), ((((((id q1).2.1.far (by dsimp only; omega) _).far (by dsimp only; omega) _).far (by dsimp only; omega) _).far (by dsimp only; omega) _).far (by dsimp only; omega) _), ((((((id q1).2.2.1.far (by dsimp only; omega) _).far (by dsimp only; omega) _).far (by dsimp only; omega) _).far (by dsimp only; omega) _).far (by dsimp only; omega) _), ((((((id q1).2.2.2.1.far (by dsimp only; omega) _).far (by dsimp only; omega) _).far (by dsimp only; omega) _).far (by dsimp only; omega) _).far (by dsimp only; omega) _), ((((((id q1).2.2.2.2.set (by dsimp only; omega) _).set (by dsimp only; omega) _).set (by dsimp only; omega) _).set (by dsimp only; omega) _).set (by dsimp only; omega) _)⟩
                        have VN := hi (HN.out.set5 (.bool (QM ((ux * ux + uy * uy) * (vx * ty - vy * tx) + (vx * vx + vy * vy) * (tx * uy - ty * ux) + (tx * tx + ty * ty) * (ux * vy - uy * vx)))) (.int .u64 (Q0 ((ux * ux + uy * uy) * (vx * ty - vy * tx) + (vx * vx + vy * vy) * (tx * uy - ty * ux) + (tx * tx + ty * ty) * (ux * vy - uy * vx)))) (.int .u64 (Q1 ((ux * ux + uy * uy) * (vx * ty - vy * tx) + (vx * vx + vy * vy) * (tx * uy - ty * ux) + (tx * tx + ty * ty) * (ux * vy - uy * vx)))) (.int .u64 (Q2 ((ux * ux + uy * uy) * (vx * ty - vy * tx) + (vx * vx + vy * vy) * (tx * uy - ty * ux) + (tx * tx + ty * ty) * (ux * vy - uy * vx)))) (.int .u64 (Q3 ((ux * ux + uy * uy) * (vx * ty - vy * tx) + (vx * vx + vy * vy) * (tx * uy - ty * ux) + (tx * tx + ty * ty) * (ux * vy - uy * vx)))))
                        clear HL
                        clear hK K q1 HN k0 k1 k2 k3 k4 f0 f1 f2 f3 f4
                        have q1 := q2
                        clear q2
                        try simp only [Act.put, x2, x3, x4, x5, x6, x7]
                        refine tk (i := 25) (v := ?_) rfl (Or.inl ⟨by rfl, ?_⟩) ?_
                        rotate_left
                        · intro Wq hSw
                          clear hSw
                          go_simp
                          all_goals (with_reducible rfl)
                        try simp only [Act.put, x2, x3, x4, x5, x6, x7]
                        refine wpAnyH_done (by kernel_rfl) ?_ _
                        go_wp2_with fail
                        go_meet
                        case rel => exact ⟨_, rfl, VN.out, id q1⟩
                    · go_simp
                      refine hK.out _ _ ?_ (fun q2 => ?_)
                      · exact ⟨(id q1).1.below (bl_one _ _), (id q1).2.1.below (bl_one _ _), (id q1).2.2.1.below (bl_one _ _), (id q1).2.2.2.1.below (bl_one _ _), (id q1).2.2.2.2.below (bl_one _ _)⟩
                      have hge := (id q1).2.2.2.2.sz
                      have HN := hi ((id q1).2.2.2.2.var5 (.bool false) (.int .u64 0) (.int .u64 0) (.int .u64 0) (.int .u64 0) 73)
                      clear hK K q1
                      have q1 := q2
                      clear q2
                      try simp only [Act.put, x2, x3, x4, x5, x6, x7]
                      revert HN
                      revert q1
                      generalize World.alloc _ _ = W2
                      intro q1 HN
                      refine r1 (i := 17) rfl (fun K hK => ?_)
                      go_simp
                      go_at_call 66
                      (with_reducible refine (product_l _ _ St.out Cuv.out _).mono ?_); rintro e w1 ⟨rfl, hb1⟩
                      go_wp2_with fail
                      refine hK.out _ _ ?_ (fun q2 => ?_)
                      · exact ⟨(id q1).1.below hb1, (id q1).2.1.below hb1, (id q1).2.2.1.below hb1, (id q1).2.2.2.1.below hb1, (id q1).2.2.2.2.below hb1⟩
                      replace HN := hi (HN.out.below hb1)
                      clear hK K q1 hb1
                      have q1 := q2
                      clear q2
                      try simp only [Act.put, x2, x3, x4, x5, x6, x7]
                      refine r1 (i := 18) rfl (fun K hK => ?_)
                      go_simp
                      refine hK.out _ _ ?_ (fun q2 => ?_)
                      · exact ⟨(id q1).1.below (bl_one _ _), (id q1).2.1.below (bl_one _ _), (id q1).2.2.1.below (bl_one _ _), (id q1).2.2.2.1.below (bl_one _ _), (id q1).2.2.2.2.below (bl_one _ _)⟩
                      replace HN := hi (HN.out.below (al_of (id q2).2.2.2.2 (bl_one _ _)))
                      have HL := hL_of (id q1).2.2.2.2 (fun W => wides3_wd W ((ux * ux + uy * uy) * (vx * ty - vy * tx)) ((vx * vx + vy * vy) * (tx * uy - ty * ux)) ((tx * tx + ty * ty) * (ux * vy - uy * vx)) 73)
                      clear hK K q1
                      have q1 := q2
                      clear q2
                      try simp only [Act.put, x2, x3, x4, x5, x6, x7]
                      revert HN
                      revert HL
                      revert q1
                      generalize World.alloc _ _ = W2
                      intro q1 HL HN
                      refine r1 (i := 19) rfl (fun K hK => ?_)
                      go_simp
                      go_at_call 83
                      (with_reducible refine (addQ3 _ _ _ BW1.out BW2.out BW3.out BW4.out BW5.out _ _ _ HL.out).mono ?_); rintro e w1 ⟨rfl, hb1⟩
                      go_wp2_with fail
                      refine hK.out _ _ ?_ (fun q2 => ?_)
                      · exact ⟨(id q1).1.below hb1, (id q1).2.1.below hb1, (id q1).2.2.1.below hb1, (id q1).2.2.2.1.below hb1, (id q1).2.2.2.2.below hb1⟩
                      replace HN := hi (HN.out.below hb1)
                      replace HL := hi (HL.out.below hb1)
                      clear hK K q1 hb1
                      have q1 := q2
                      clear q2
                      try simp only [Act.put, x2, x3, x4, x5, x6, x7]
                      refine tk (i := 20) (v := ?_) rfl (Or.inl ⟨by rfl, ?_⟩) ?_
                      rotate_left
                      · intro Wq hSw
                        clear hSw
                        go_simp
                        all_goals (with_reducible rfl)
                      try simp only [Act.put, x2, x3, x4, x5, x6, x7]
                      refine tk (i := 21) (v := ?_) rfl (Or.inl ⟨by rfl, ?_⟩) ?_
                      rotate_left
                      · intro Wq hSw
                        clear hSw
                        go_simp
                        all_goals (with_reducible rfl)
                      try simp only [Act.put, x2, x3, x4, x5, x6, x7]
                      refine tk (i := 22) (v := ?_) rfl (Or.inl ⟨by rfl, ?_⟩) ?_
                      rotate_left
                      · intro Wq hSw
                        clear hSw
                        go_simp
                        all_goals (with_reducible rfl)
                      try simp only [Act.put, x2, x3, x4, x5, x6, x7]
                      refine r1 (i := 24) rfl (fun K hK => ?_)
                      obtain ⟨k0, k1, k2, k3, k4⟩ := HN.out.five
                      obtain ⟨f0, f1, f2, f3, f4⟩ := HN.out.free5
                      go_simp
                      refine hK.out _ _ ?_ (fun q2 => ?_)
                      · exact ⟨((((((id q1).1.far (by dsimp only; omega) _).far (by dsimp only; omega) _).far (by dsimp only; omega) _).far (by dsimp only; omega) _).far (by dsimp only; omega) _), ((((((id q1).2.1.far (by dsimp only; omega) _).far (by dsimp only; omega) _).far (by dsimp only; omega) _).far (by dsimp only; omega) _).far (by dsimp only; omega) _), ((((((id q1).2.2.1.far (by dsimp only; omega) _).far (by dsimp only; omega) _).far (by dsimp only; omega) _).far (by dsimp only; omega) _).far (by dsimp only; omega) _), ((((((id q1).2.2.2.1.far (by dsimp only; omega) _).far (by dsimp only; omega) _).far (by dsimp only; omega) _).far (by dsimp only; omega) _).far (by dsimp only; omega) _), ((((((id q1).2.2.2.2.set (by dsimp only; omega) _).set (by dsimp only; omega) _).set (by dsimp only; omega) _).set (by dsimp only; omega) _).set (by dsimp only; omega) _)⟩
                      have VN := hi (HN.out.set5 (.bool (QM ((ux * ux + uy * uy) * (vx * ty - vy * tx) + (vx * vx + vy * vy) * (tx * uy - ty * ux) + (tx * tx + ty * ty) * (ux * vy - uy * vx)))) (.int .u64 (Q0 ((ux * ux + uy * uy) * (vx * ty - vy * tx) + (vx * vx + vy * vy) * (tx * uy - ty * ux) + (tx * tx + ty * ty) * (ux * vy - uy * vx)))) (.int .u64 (Q1 ((ux * ux + uy * uy) * (vx * ty - vy * tx) + (vx * vx + vy * vy) * (tx * uy - ty * ux) + (tx * tx + ty * ty) * (ux * vy - uy * vx)))) (.int .u64 (Q2 ((ux * ux + uy * uy) * (vx * ty - vy * tx) + (vx * vx + vy * vy) * (tx * uy - ty * ux) + (tx * tx + ty * ty) * (ux * vy - uy * vx)))) (.int .u64 (Q3 ((ux * ux + uy * uy) * (vx * ty - vy * tx) + (vx * vx + vy * vy) * (tx * uy - ty * ux) + (tx * tx + ty * ty) * (ux * vy - uy * vx)))))
                      clear HL
                      clear hK K q1 HN k0 k1 k2 k3 k4 f0 f1 f2 f3 f4
                      have q1 := q2
                      clear q2
                      try simp only [Act.put, x2, x3, x4, x5, x6, x7]
                      refine tk (i := 25) (v := ?_) rfl (Or.inl ⟨by rfl, ?_⟩) ?_
                      rotate_left
                      · intro Wq hSw
                        clear hSw
                        go_simp
                        all_goals (with_reducible rfl)
                      try simp only [Act.put, x2, x3, x4, x5, x6, x7]
                      refine wpAnyH_done (by kernel_rfl) ?_ _
                      go_wp2_with fail
                      go_meet
                      case rel => exact ⟨_, rfl, VN.out, id q1⟩
                  · go_simp
                    refine hK.out _ _ ?_ (fun q2 => ?_)
                    · exact ⟨(id q1).1.below (bl_one _ _), (id q1).2.1.below (bl_one _ _), (id q1).2.2.1.below (bl_one _ _), (id q1).2.2.2.1.below (bl_one _ _), (id q1).2.2.2.2.below (bl_one _ _)⟩
                    have hge := (id q1).2.2.2.2.sz
                    have HN := hi ((id q1).2.2.2.2.var5 (.bool false) (.int .u64 0) (.int .u64 0) (.int .u64 0) (.int .u64 0) 73)
                    clear hK K q1
                    have q1 := q2
                    clear q2
                    try simp only [Act.put, x2, x3, x4, x5, x6, x7]
                    revert HN
                    revert q1
                    generalize World.alloc _ _ = W2
                    intro q1 HN
                    refine r1 (i := 16) rfl (fun K hK => ?_)
                    go_simp
                    go_at_call 55
                    (with_reducible refine (cross_l _ _ _ _ Hux.out Huy.out Hvx.out Hvy.out _).mono ?_); rintro e w1 ⟨rfl, hb1⟩
                    go_wp2_with fail
                    refine hK.out _ _ ?_ (fun q2 => ?_)
                    · exact ⟨(id q1).1.below hb1, (id q1).2.1.below hb1, (id q1).2.2.1.below hb1, (id q1).2.2.2.1.below hb1, (id q1).2.2.2.2.below hb1⟩
                    replace HN := hi (HN.out.below hb1)
                    clear hK K q1 hb1
                    have q1 := q2
                    clear q2
                    try simp only [Act.put, x2, x3, x4, x5, x6, x7]
                    refine r1 (i := 17) rfl (fun K hK => ?_)
                    go_simp
                    go_at_call 66
                    (with_reducible refine (product_l _ _ St.out Cuv.out _).mono ?_); rintro e w1 ⟨rfl, hb1⟩
                    go_wp2_with fail
                    refine hK.out _ _ ?_ (fun q2 => ?_)
                    · exact ⟨(id q1).1.below hb1, (id q1).2.1.below hb1, (id q1).2.2.1.below hb1, (id q1).2.2.2.1.below hb1, (id q1).2.2.2.2.below hb1⟩
                    replace HN := hi (HN.out.below hb1)
                    clear hK K q1 hb1
                    have q1 := q2
                    clear q2
                    try simp only [Act.put, x2, x3, x4, x5, x6, x7]
                    refine r1 (i := 18) rfl (fun K hK => ?_)
                    go_simp
                    refine hK.out _ _ ?_ (fun q2 => ?_)
                    · exact ⟨(id q1).1.below (bl_one _ _), (id q1).2.1.below (bl_one _ _), (id q1).2.2.1.below (bl_one _ _), (id q1).2.2.2.1.below (bl_one _ _), (id q1).2.2.2.2.below (bl_one _ _)⟩
                    replace HN := hi (HN.out.below (al_of (id q2).2.2.2.2 (bl_one _ _)))
                    have HL := hL_of (id q1).2.2.2.2 (fun W => wides3_wd W ((ux * ux + uy * uy) * (vx * ty - vy * tx)) ((vx * vx + vy * vy) * (tx * uy - ty * ux)) ((tx * tx + ty * ty) * (ux * vy - uy * vx)) 73)
                    clear hK K q1
                    have q1 := q2
                    clear q2
                    try simp only [Act.put, x2, x3, x4, x5, x6, x7]
                    revert HN
                    revert HL
                    revert q1
                    generalize World.alloc _ _ = W2
                    intro q1 HL HN
                    refine r1 (i := 19) rfl (fun K hK => ?_)
                    go_simp
                    go_at_call 83
                    (with_reducible refine (addQ3 _ _ _ BW1.out BW2.out BW3.out BW4.out BW5.out _ _ _ HL.out).mono ?_); rintro e w1 ⟨rfl, hb1⟩
                    go_wp2_with fail
                    refine hK.out _ _ ?_ (fun q2 => ?_)
                    · exact ⟨(id q1).1.below hb1, (id q1).2.1.below hb1, (id q1).2.2.1.below hb1, (id q1).2.2.2.1.below hb1, (id q1).2.2.2.2.below hb1⟩
                    replace HN := hi (HN.out.below hb1)
                    replace HL := hi (HL.out.below hb1)
                    clear hK K q1 hb1
                    have q1 := q2
                    clear q2
                    try simp only [Act.put, x2, x3, x4, x5, x6, x7]
                    refine tk (i := 20) (v := ?_) rfl (Or.inl ⟨by rfl, ?_⟩) ?_
                    rotate_left
                    · intro Wq hSw
                      clear hSw
                      go_simp
                      all_goals (with_reducible rfl)
                    try simp only [Act.put, x2, x3, x4, x5, x6, x7]
                    refine tk (i := 21) (v := ?_) rfl (Or.inl ⟨by rfl, ?_⟩) ?_
                    rotate_left
                    · intro Wq hSw
                      clear hSw
                      go_simp
                      all_goals (with_reducible rfl)
                    try simp only [Act.put, x2, x3, x4, x5, x6, x7]
                    refine tk (i := 22) (v := ?_) rfl (Or.inl ⟨by rfl, ?_⟩) ?_
                    rotate_left
                    · intro Wq hSw
                      clear hSw
                      go_simp
                      all_goals (with_reducible rfl)
                    try simp only [Act.put, x2, x3, x4, x5, x6, x7]
                    refine r1 (i := 24) rfl (fun K hK => ?_)
                    obtain ⟨k0, k1, k2, k3, k4⟩ := HN.out.five
                    obtain ⟨f0, f1, f2, f3, f4⟩ := HN.out.free5
                    go_simp
                    refine hK.out _ _ ?_ (fun q2 => ?_)
                    · exact ⟨((((((id q1).1.far (by dsimp only; omega) _).far (by dsimp only; omega) _).far (by dsimp only; omega) _).far (by dsimp only; omega) _).far (by dsimp only; omega) _), ((((((id q1).2.1.far (by dsimp only; omega) _).far (by dsimp only; omega) _).far (by dsimp only; omega) _).far (by dsimp only; omega) _).far (by dsimp only; omega) _), ((((((id q1).2.2.1.far (by dsimp only; omega) _).far (by dsimp only; omega) _).far (by dsimp only; omega) _).far (by dsimp only; omega) _).far (by dsimp only; omega) _), ((((((id q1).2.2.2.1.far (by dsimp only; omega) _).far (by dsimp only; omega) _).far (by dsimp only; omega) _).far (by dsimp only; omega) _).far (by dsimp only; omega) _), ((((((id q1).2.2.2.2.set (by dsimp only; omega) _).set (by dsimp only; omega) _).set (by dsimp only; omega) _).set (by dsimp only; omega) _).set (by dsimp only; omega) _)⟩
                    have VN := hi (HN.out.set5 (.bool (QM ((ux * ux + uy * uy) * (vx * ty - vy * tx) + (vx * vx + vy * vy) * (tx * uy - ty * ux) + (tx * tx + ty * ty) * (ux * vy - uy * vx)))) (.int .u64 (Q0 ((ux * ux + uy * uy) * (vx * ty - vy * tx) + (vx * vx + vy * vy) * (tx * uy - ty * ux) + (tx * tx + ty * ty) * (ux * vy - uy * vx)))) (.int .u64 (Q1 ((ux * ux + uy * uy) * (vx * ty - vy * tx) + (vx * vx + vy * vy) * (tx * uy - ty * ux) + (tx * tx + ty * ty) * (ux * vy - uy * vx)))) (.int .u64 (Q2 ((ux * ux + uy * uy) * (vx * ty - vy * tx) + (vx * vx + vy * vy) * (tx * uy - ty * ux) + (tx * tx + ty * ty) * (ux * vy - uy * vx)))) (.int .u64 (Q3 ((ux * ux + uy * uy) * (vx * ty - vy * tx) + (vx * vx + vy * vy) * (tx * uy - ty * ux) + (tx * tx + ty * ty) * (ux * vy - uy * vx)))))
                    clear HL
                    clear hK K q1 HN k0 k1 k2 k3 k4 f0 f1 f2 f3 f4
                    have q1 := q2
                    clear q2
                    try simp only [Act.put, x2, x3, x4, x5, x6, x7]
                    refine tk (i := 25) (v := ?_) rfl (Or.inl ⟨by rfl, ?_⟩) ?_
                    rotate_left
                    · intro Wq hSw
                      clear hSw
                      go_simp
                      all_goals (with_reducible rfl)
                    try simp only [Act.put, x2, x3, x4, x5, x6, x7]
                    refine wpAnyH_done (by kernel_rfl) ?_ _
                    go_wp2_with fail
                    go_meet
                    case rel => exact ⟨_, rfl, VN.out, id q1⟩
                · go_simp
                  refine hK.out _ _ ?_ (fun q2 => ?_)
                  · exact ⟨(id q1).1.below (bl_one _ _), (id q1).2.1.below (bl_one _ _), (id q1).2.2.1.below (bl_one _ _), (id q1).2.2.2.1.below (bl_one _ _), (id q1).2.2.2.2.below (bl_one _ _)⟩
                  have hge := (id q1).2.2.2.2.sz
                  have HN := hi ((id q1).2.2.2.2.var5 (.bool false) (.int .u64 0) (.int .u64 0) (.int .u64 0) (.int .u64 0) 73)
                  clear hK K q1
                  have q1 := q2
                  clear q2
                  try simp only [Act.put, x2, x3, x4, x5, x6, x7]
                  revert HN
                  revert q1
                  generalize World.alloc _ _ = W2
                  intro q1 HN
                  refine r1 (i := 13) rfl (fun K hK => ?_)
                  go_simp
                  go_at_call 64
                  (with_reducible refine (square_l _ _ Htx.out Hty.out _).mono ?_); rintro e w1 ⟨rfl, hb1⟩
                  go_wp2_with fail
                  refine hK.out _ _ ?_ (fun q2 => ?_)
                  · exact ⟨(id q1).1.below hb1, (id q1).2.1.below hb1, (id q1).2.2.1.below hb1, (id q1).2.2.2.1.below hb1, (id q1).2.2.2.2.below hb1⟩
                  replace HN := hi (HN.out.below hb1)
                  clear hK K q1 hb1
                  have q1 := q2
                  clear q2
                  try simp only [Act.put, x2, x3, x4, x5, x6, x7]
                  refine r1 (i := 16) rfl (fun K hK => ?_)
                  go_simp
                  go_at_call 55
                  (with_reducible refine (cross_l _ _ _ _ Hux.out Huy.out Hvx.out Hvy.out _).mono ?_); rintro e w1 ⟨rfl, hb1⟩
                  go_wp2_with fail
                  refine hK.out _ _ ?_ (fun q2 => ?_)
                  · exact ⟨(id q1).1.below hb1, (id q1).2.1.below hb1, (id q1).2.2.1.below hb1, (id q1).2.2.2.1.below hb1, (id q1).2.2.2.2.below hb1⟩
                  replace HN := hi (HN.out.below hb1)
                  clear hK K q1 hb1
                  have q1 := q2
                  clear q2
                  try simp only [Act.put, x2, x3, x4, x5, x6, x7]
                  refine r1 (i := 17) rfl (fun K hK => ?_)
                  go_simp
                  go_at_call 66
                  (with_reducible refine (product_l _ _ St.out Cuv.out _).mono ?_); rintro e w1 ⟨rfl, hb1⟩
                  go_wp2_with fail
                  refine hK.out _ _ ?_ (fun q2 => ?_)
                  · exact ⟨(id q1).1.below hb1, (id q1).2.1.below hb1, (id q1).2.2.1.below hb1, (id q1).2.2.2.1.below hb1, (id q1).2.2.2.2.below hb1⟩
                  replace HN := hi (HN.out.below hb1)
                  clear hK K q1 hb1
                  have q1 := q2
                  clear q2
                  try simp only [Act.put, x2, x3, x4, x5, x6, x7]
                  refine r1 (i := 18) rfl (fun K hK => ?_)
                  go_simp
                  refine hK.out _ _ ?_ (fun q2 => ?_)
                  · exact ⟨(id q1).1.below (bl_one _ _), (id q1).2.1.below (bl_one _ _), (id q1).2.2.1.below (bl_one _ _), (id q1).2.2.2.1.below (bl_one _ _), (id q1).2.2.2.2.below (bl_one _ _)⟩
                  replace HN := hi (HN.out.below (al_of (id q2).2.2.2.2 (bl_one _ _)))
                  have HL := hL_of (id q1).2.2.2.2 (fun W => wides3_wd W ((ux * ux + uy * uy) * (vx * ty - vy * tx)) ((vx * vx + vy * vy) * (tx * uy - ty * ux)) ((tx * tx + ty * ty) * (ux * vy - uy * vx)) 73)
                  clear hK K q1
                  have q1 := q2
                  clear q2
                  try simp only [Act.put, x2, x3, x4, x5, x6, x7]
                  revert HN
                  revert HL
                  revert q1
                  generalize World.alloc _ _ = W2
                  intro q1 HL HN
                  refine r1 (i := 19) rfl (fun K hK => ?_)
                  go_simp
                  go_at_call 83
                  (with_reducible refine (addQ3 _ _ _ BW1.out BW2.out BW3.out BW4.out BW5.out _ _ _ HL.out).mono ?_); rintro e w1 ⟨rfl, hb1⟩
                  go_wp2_with fail
                  refine hK.out _ _ ?_ (fun q2 => ?_)
                  · exact ⟨(id q1).1.below hb1, (id q1).2.1.below hb1, (id q1).2.2.1.below hb1, (id q1).2.2.2.1.below hb1, (id q1).2.2.2.2.below hb1⟩
                  replace HN := hi (HN.out.below hb1)
                  replace HL := hi (HL.out.below hb1)
                  clear hK K q1 hb1
                  have q1 := q2
                  clear q2
                  try simp only [Act.put, x2, x3, x4, x5, x6, x7]
                  refine tk (i := 20) (v := ?_) rfl (Or.inl ⟨by rfl, ?_⟩) ?_
                  rotate_left
                  · intro Wq hSw
                    clear hSw
                    go_simp
                    all_goals (with_reducible rfl)
                  try simp only [Act.put, x2, x3, x4, x5, x6, x7]
                  refine tk (i := 21) (v := ?_) rfl (Or.inl ⟨by rfl, ?_⟩) ?_
                  rotate_left
                  · intro Wq hSw
                    clear hSw
                    go_simp
                    all_goals (with_reducible rfl)
                  try simp only [Act.put, x2, x3, x4, x5, x6, x7]
                  refine tk (i := 22) (v := ?_) rfl (Or.inl ⟨by rfl, ?_⟩) ?_
                  rotate_left
                  · intro Wq hSw
                    clear hSw
                    go_simp
                    all_goals (with_reducible rfl)
                  try simp only [Act.put, x2, x3, x4, x5, x6, x7]
                  refine r1 (i := 24) rfl (fun K hK => ?_)
                  obtain ⟨k0, k1, k2, k3, k4⟩ := HN.out.five
                  obtain ⟨f0, f1, f2, f3, f4⟩ := HN.out.free5
                  go_simp
                  refine hK.out _ _ ?_ (fun q2 => ?_)
                  · exact ⟨((((((id q1).1.far (by dsimp only; omega) _).far (by dsimp only; omega) _).far (by dsimp only; omega) _).far (by dsimp only; omega) _).far (by dsimp only; omega) _), ((((((id q1).2.1.far (by dsimp only; omega) _).far (by dsimp only; omega) _).far (by dsimp only; omega) _).far (by dsimp only; omega) _).far (by dsimp only; omega) _), ((((((id q1).2.2.1.far (by dsimp only; omega) _).far (by dsimp only; omega) _).far (by dsimp only; omega) _).far (by dsimp only; omega) _).far (by dsimp only; omega) _), ((((((id q1).2.2.2.1.far (by dsimp only; omega) _).far (by dsimp only; omega) _).far (by dsimp only; omega) _).far (by dsimp only; omega) _).far (by dsimp only; omega) _), ((((((id q1).2.2.2.2.set (by dsimp only; omega) _).set (by dsimp only; omega) _).set (by dsimp only; omega) _).set (by dsimp only; omega) _).set (by dsimp only; omega) _)⟩
                  have VN := hi (HN.out.set5 (.bool (QM ((ux * ux + uy * uy) * (vx * ty - vy * tx) + (vx * vx + vy * vy) * (tx * uy - ty * ux) + (tx * tx + ty * ty) * (ux * vy - uy * vx)))) (.int .u64 (Q0 ((ux * ux + uy * uy) * (vx * ty - vy * tx) + (vx * vx + vy * vy) * (tx * uy - ty * ux) + (tx * tx + ty * ty) * (ux * vy - uy * vx)))) (.int .u64 (Q1 ((ux * ux + uy * uy) * (vx * ty - vy * tx) + (vx * vx + vy * vy) * (tx * uy - ty * ux) + (tx * tx + ty * ty) * (ux * vy - uy * vx)))) (.int .u64 (Q2 ((ux * ux + uy * uy) * (vx * ty - vy * tx) + (vx * vx + vy * vy) * (tx * uy - ty * ux) + (tx * tx + ty * ty) * (ux * vy - uy * vx)))) (.int .u64 (Q3 ((ux * ux + uy * uy) * (vx * ty - vy * tx) + (vx * vx + vy * vy) * (tx * uy - ty * ux) + (tx * tx + ty * ty) * (ux * vy - uy * vx)))))
                  clear HL
                  clear hK K q1 HN k0 k1 k2 k3 k4 f0 f1 f2 f3 f4
                  have q1 := q2
                  clear q2
                  try simp only [Act.put, x2, x3, x4, x5, x6, x7]
                  refine tk (i := 25) (v := ?_) rfl (Or.inl ⟨by rfl, ?_⟩) ?_
                  rotate_left
                  · intro Wq hSw
                    clear hSw
                    go_simp
                    all_goals (with_reducible rfl)
                  try simp only [Act.put, x2, x3, x4, x5, x6, x7]
                  refine wpAnyH_done (by kernel_rfl) ?_ _
                  go_wp2_with fail
                  go_meet
                  case rel => exact ⟨_, rfl, VN.out, id q1⟩
              · go_simp
                refine hK.out _ _ ?_ (fun q2 => ?_)
                · exact ⟨(id q1).1.below (bl_one _ _), (id q1).2.1.below (bl_one _ _), (id q1).2.2.1.below (bl_one _ _), (id q1).2.2.2.1.below (bl_one _ _), (id q1).2.2.2.2.below (bl_one _ _)⟩
                have hge := (id q1).2.2.2.2.sz
                have HN := hi ((id q1).2.2.2.2.var5 (.bool false) (.int .u64 0) (.int .u64 0) (.int .u64 0) (.int .u64 0) 73)
                clear hK K q1
                have q1 := q2
                clear q2
                try simp only [Act.put, x2, x3, x4, x5, x6, x7]
                revert HN
                revert q1
                generalize World.alloc _ _ = W2
                intro q1 HN
                refine r1 (i := 11) rfl (fun K hK => ?_)
                go_simp
                go_at_call 66
                (with_reducible refine (product_l _ _ Sv.out Ctu.out _).mono ?_); rintro e w1 ⟨rfl, hb1⟩
                go_wp2_with fail
                refine hK.out _ _ ?_ (fun q2 => ?_)
                · exact ⟨(id q1).1.below hb1, (id q1).2.1.below hb1, (id q1).2.2.1.below hb1, (id q1).2.2.2.1.below hb1, (id q1).2.2.2.2.below hb1⟩
                replace HN := hi (HN.out.below hb1)
                clear hK K q1 hb1
                have q1 := q2
                clear q2
                try simp only [Act.put, x2, x3, x4, x5, x6, x7]
                refine r1 (i := 13) rfl (fun K hK => ?_)
                go_simp
                go_at_call 64
                (with_reducible refine (square_l _ _ Htx.out Hty.out _).mono ?_); rintro e w1 ⟨rfl, hb1⟩
                go_wp2_with fail
                refine hK.out _ _ ?_ (fun q2 => ?_)
                · exact ⟨(id q1).1.below hb1, (id q1).2.1.below hb1, (id q1).2.2.1.below hb1, (id q1).2.2.2.1.below hb1, (id q1).2.2.2.2.below hb1⟩
                replace HN := hi (HN.out.below hb1)
                clear hK K q1 hb1
                have q1 := q2
                clear q2
                try simp only [Act.put, x2, x3, x4, x5, x6, x7]
                refine r1 (i := 16) rfl (fun K hK => ?_)
                go_simp
                go_at_call 55
                (with_reducible refine (cross_l _ _ _ _ Hux.out Huy.out Hvx.out Hvy.out _).mono ?_); rintro e w1 ⟨rfl, hb1⟩
                go_wp2_with fail
                refine hK.out _ _ ?_ (fun q2 => ?_)
                · exact ⟨(id q1).1.below hb1, (id q1).2.1.below hb1, (id q1).2.2.1.below hb1, (id q1).2.2.2.1.below hb1, (id q1).2.2.2.2.below hb1⟩
                replace HN := hi (HN.out.below hb1)
                clear hK K q1 hb1
                have q1 := q2
                clear q2
                try simp only [Act.put, x2, x3, x4, x5, x6, x7]
                refine r1 (i := 17) rfl (fun K hK => ?_)
                go_simp
                go_at_call 66
                (with_reducible refine (product_l _ _ St.out Cuv.out _).mono ?_); rintro e w1 ⟨rfl, hb1⟩
                go_wp2_with fail
                refine hK.out _ _ ?_ (fun q2 => ?_)
                · exact ⟨(id q1).1.below hb1, (id q1).2.1.below hb1, (id q1).2.2.1.below hb1, (id q1).2.2.2.1.below hb1, (id q1).2.2.2.2.below hb1⟩
                replace HN := hi (HN.out.below hb1)
                clear hK K q1 hb1
                have q1 := q2
                clear q2
                try simp only [Act.put, x2, x3, x4, x5, x6, x7]
                refine r1 (i := 18) rfl (fun K hK => ?_)
                go_simp
                refine hK.out _ _ ?_ (fun q2 => ?_)
                · exact ⟨(id q1).1.below (bl_one _ _), (id q1).2.1.below (bl_one _ _), (id q1).2.2.1.below (bl_one _ _), (id q1).2.2.2.1.below (bl_one _ _), (id q1).2.2.2.2.below (bl_one _ _)⟩
                replace HN := hi (HN.out.below (al_of (id q2).2.2.2.2 (bl_one _ _)))
                have HL := hL_of (id q1).2.2.2.2 (fun W => wides3_wd W ((ux * ux + uy * uy) * (vx * ty - vy * tx)) ((vx * vx + vy * vy) * (tx * uy - ty * ux)) ((tx * tx + ty * ty) * (ux * vy - uy * vx)) 73)
                clear hK K q1
                have q1 := q2
                clear q2
                try simp only [Act.put, x2, x3, x4, x5, x6, x7]
                revert HN
                revert HL
                revert q1
                generalize World.alloc _ _ = W2
                intro q1 HL HN
                refine r1 (i := 19) rfl (fun K hK => ?_)
                go_simp
                go_at_call 83
                (with_reducible refine (addQ3 _ _ _ BW1.out BW2.out BW3.out BW4.out BW5.out _ _ _ HL.out).mono ?_); rintro e w1 ⟨rfl, hb1⟩
                go_wp2_with fail
                refine hK.out _ _ ?_ (fun q2 => ?_)
                · exact ⟨(id q1).1.below hb1, (id q1).2.1.below hb1, (id q1).2.2.1.below hb1, (id q1).2.2.2.1.below hb1, (id q1).2.2.2.2.below hb1⟩
                replace HN := hi (HN.out.below hb1)
                replace HL := hi (HL.out.below hb1)
                clear hK K q1 hb1
                have q1 := q2
                clear q2
                try simp only [Act.put, x2, x3, x4, x5, x6, x7]
                refine tk (i := 20) (v := ?_) rfl (Or.inl ⟨by rfl, ?_⟩) ?_
                rotate_left
                · intro Wq hSw
                  clear hSw
                  go_simp
                  all_goals (with_reducible rfl)
                try simp only [Act.put, x2, x3, x4, x5, x6, x7]
                refine tk (i := 21) (v := ?_) rfl (Or.inl ⟨by rfl, ?_⟩) ?_
                rotate_left
                · intro Wq hSw
                  clear hSw
                  go_simp
                  all_goals (with_reducible rfl)
                try simp only [Act.put, x2, x3, x4, x5, x6, x7]
                refine tk (i := 22) (v := ?_) rfl (Or.inl ⟨by rfl, ?_⟩) ?_
                rotate_left
                · intro Wq hSw
                  clear hSw
                  go_simp
                  all_goals (with_reducible rfl)
                try simp only [Act.put, x2, x3, x4, x5, x6, x7]
                refine r1 (i := 24) rfl (fun K hK => ?_)
                obtain ⟨k0, k1, k2, k3, k4⟩ := HN.out.five
                obtain ⟨f0, f1, f2, f3, f4⟩ := HN.out.free5
                go_simp
                refine hK.out _ _ ?_ (fun q2 => ?_)
                · exact ⟨((((((id q1).1.far (by dsimp only; omega) _).far (by dsimp only; omega) _).far (by dsimp only; omega) _).far (by dsimp only; omega) _).far (by dsimp only; omega) _), ((((((id q1).2.1.far (by dsimp only; omega) _).far (by dsimp only; omega) _).far (by dsimp only; omega) _).far (by dsimp only; omega) _).far (by dsimp only; omega) _), ((((((id q1).2.2.1.far (by dsimp only; omega) _).far (by dsimp only; omega) _).far (by dsimp only; omega) _).far (by dsimp only; omega) _).far (by dsimp only; omega) _), ((((((id q1).2.2.2.1.far (by dsimp only; omega) _).far (by dsimp only; omega) _).far (by dsimp only; omega) _).far (by dsimp only; omega) _).far (by dsimp only; omega) _), ((((((id q1).2.2.2.2.set (by dsimp only; omega) _).set (by dsimp only; omega) _).set (by dsimp only; omega) _).set (by dsimp only; omega) _).set (by dsimp only; omega) _)⟩
                have VN := hi (HN.out.set5 (.bool (QM ((ux * ux + uy * uy) * (vx * ty - vy * tx) + (vx * vx + vy * vy) * (tx * uy - ty * ux) + (tx * tx + ty * ty) * (ux * vy - uy * vx)))) (.int .u64 (Q0 ((ux * ux + uy * uy) * (vx * ty - vy * tx) + (vx * vx + vy * vy) * (tx * uy - ty * ux) + (tx * tx + ty * ty) * (ux * vy - uy * vx)))) (.int .u64 (Q1 ((ux * ux + uy * uy) * (vx * ty - vy * tx) + (vx * vx + vy * vy) * (tx * uy - ty * ux) + (tx * tx + ty * ty) * (ux * vy - uy * vx)))) (.int .u64 (Q2 ((ux * ux + uy * uy) * (vx * ty - vy * tx) + (vx * vx + vy * vy) * (tx * uy - ty * ux) + (tx * tx + ty * ty) * (ux * vy - uy * vx)))) (.int .u64 (Q3 ((ux * ux + uy * uy) * (vx * ty - vy * tx) + (vx * vx + vy * vy) * (tx * uy - ty * ux) + (tx * tx + ty * ty) * (ux * vy - uy * vx)))))
                clear HL
                clear hK K q1 HN k0 k1 k2 k3 k4 f0 f1 f2 f3 f4
                have q1 := q2
                clear q2
                try simp only [Act.put, x2, x3, x4, x5, x6, x7]
                refine tk (i := 25) (v := ?_) rfl (Or.inl ⟨by rfl, ?_⟩) ?_
                rotate_left
                · intro Wq hSw
                  clear hSw
                  go_simp
                  all_goals (with_reducible rfl)
                try simp only [Act.put, x2, x3, x4, x5, x6, x7]
                refine wpAnyH_done (by kernel_rfl) ?_ _
                go_wp2_with fail
                go_meet
                case rel => exact ⟨_, rfl, VN.out, id q1⟩
            · go_simp
              refine hK.out _ _ ?_ (fun q2 => ?_)
              · exact ⟨(id q1).1.below (bl_one _ _), (id q1).2.1.below (bl_one _ _), (id q1).2.2.1.below (bl_one _ _), (id q1).2.2.2.1.below (bl_one _ _), (id q1).2.2.2.2.below (bl_one _ _)⟩
              have hge := (id q1).2.2.2.2.sz
              have HN := hi ((id q1).2.2.2.2.var5 (.bool false) (.int .u64 0) (.int .u64 0) (.int .u64 0) (.int .u64 0) 73)
              clear hK K q1
              have q1 := q2
              clear q2
              try simp only [Act.put, x2, x3, x4, x5, x6, x7]
              revert HN
              revert q1
              generalize World.alloc _ _ = W2
              intro q1 HN
              refine r1 (i := 10) rfl (fun K hK => ?_)
              go_simp
              go_at_call 55
              (with_reducible refine (cross_l _ _ _ _ Htx.out Hty.out Hux.out Huy.out _).mono ?_); rintro e w1 ⟨rfl, hb1⟩
              go_wp2_with fail
              refine hK.out _ _ ?_ (fun q2 => ?_)
              · exact ⟨(id q1).1.below hb1, (id q1).2.1.below hb1, (id q1).2.2.1.below hb1, (id q1).2.2.2.1.below hb1, (id q1).2.2.2.2.below hb1⟩
              replace HN := hi (HN.out.below hb1)
              clear hK K q1 hb1
              have q1 := q2
              clear q2
              try simp only [Act.put, x2, x3, x4, x5, x6, x7]
              refine r1 (i := 11) rfl (fun K hK => ?_)
              go_simp
              go_at_call 66
              (with_reducible refine (product_l _ _ Sv.out Ctu.out _).mono ?_); rintro e w1 ⟨rfl, hb1⟩
              go_wp2_with fail
              refine hK.out _ _ ?_ (fun q2 => ?_)
              · exact ⟨(id q1).1.below hb1, (id q1).2.1.below hb1, (id q1).2.2.1.below hb1, (id q1).2.2.2.1.below hb1, (id q1).2.2.2.2.below hb1⟩
              replace HN := hi (HN.out.below hb1)
              clear hK K q1 hb1
              have q1 := q2
              clear q2
              try simp only [Act.put, x2, x3, x4, x5, x6, x7]
              refine r1 (i := 13) rfl (fun K hK => ?_)
              go_simp
              go_at_call 64
              (with_reducible refine (square_l _ _ Htx.out Hty.out _).mono ?_); rintro e w1 ⟨rfl, hb1⟩
              go_wp2_with fail
              refine hK.out _ _ ?_ (fun q2 => ?_)
              · exact ⟨(id q1).1.below hb1, (id q1).2.1.below hb1, (id q1).2.2.1.below hb1, (id q1).2.2.2.1.below hb1, (id q1).2.2.2.2.below hb1⟩
              replace HN := hi (HN.out.below hb1)
              clear hK K q1 hb1
              have q1 := q2
              clear q2
              try simp only [Act.put, x2, x3, x4, x5, x6, x7]
              refine r1 (i := 16) rfl (fun K hK => ?_)
              go_simp
              go_at_call 55
              (with_reducible refine (cross_l _ _ _ _ Hux.out Huy.out Hvx.out Hvy.out _).mono ?_); rintro e w1 ⟨rfl, hb1⟩
              go_wp2_with fail
              refine hK.out _ _ ?_ (fun q2 => ?_)
              · exact ⟨(id q1).1.below hb1, (id q1).2.1.below hb1, (id q1).2.2.1.below hb1, (id q1).2.2.2.1.below hb1, (id q1).2.2.2.2.below hb1⟩
              replace HN := hi (HN.out.below hb1)
              clear hK K q1 hb1
              have q1 := q2
              clear q2
              try simp only [Act.put, x2, x3, x4, x5, x6, x7]
              refine r1 (i := 17) rfl (fun K hK => ?_)
              go_simp
              go_at_call 66
              (with_reducible refine (product_l _ _ St.out Cuv.out _).mono ?_); rintro e w1 ⟨rfl, hb1⟩
              go_wp2_with fail
              refine hK.out _ _ ?_ (fun q2 => ?_)
              · exact ⟨(id q1).1.below hb1, (id q1).2.1.below hb1, (id q1).2.2.1.below hb1, (id q1).2.2.2.1.below hb1, (id q1).2.2.2.2.below hb1⟩
              replace HN := hi (HN.out.below hb1)
              clear hK K q1 hb1
              have q1 := q2
              clear q2
              try simp only [Act.put, x2, x3, x4, x5, x6, x7]
              refine r1 (i := 18) rfl (fun K hK => ?_)
              go_simp
              refine hK.out _ _ ?_ (fun q2 => ?_)
              · exact ⟨(id q1).1.below (bl_one _ _), (id q1).2.1.below (bl_one _ _), (id q1).2.2.1.below (bl_one _ _), (id q1).2.2.2.1.below (bl_one _ _), (id q1).2.2.2.2.below (bl_one _ _)⟩
              replace HN := hi (HN.out.below (al_of (id q2).2.2.2.2 (bl_one _ _)))
              have HL := hL_of (id q1).2.2.2.2 (fun W => wides3_wd W ((ux * ux + uy * uy) * (vx * ty - vy * tx)) ((vx * vx + vy * vy) * (tx * uy - ty * ux)) ((tx * tx + ty * ty) * (ux * vy - uy * vx)) 73)
              clear hK K q1
              have q1 := q2
              clear q2
              try simp only [Act.put, x2, x3, x4, x5, x6, x7]
              revert HN
              revert HL
              revert q1
              generalize World.alloc _ _ = W2
              intro q1 HL HN
              refine r1 (i := 19) rfl (fun K hK => ?_)
              go_simp
              go_at_call 83
              (with_reducible refine (addQ3 _ _ _ BW1.out BW2.out BW3.out BW4.out BW5.out _ _ _ HL.out).mono ?_); rintro e w1 ⟨rfl, hb1⟩
              go_wp2_with fail
              refine hK.out _ _ ?_ (fun q2 => ?_)
              · exact ⟨(id q1).1.below hb1, (id q1).2.1.below hb1, (id q1).2.2.1.below hb1, (id q1).2.2.2.1.below hb1, (id q1).2.2.2.2.below hb1⟩
              replace HN := hi (HN.out.below hb1)
              replace HL := hi (HL.out.below hb1)
              clear hK K q1 hb1
              have q1 := q2
              clear q2
              try simp only [Act.put, x2, x3, x4, x5, x6, x7]
              refine tk (i := 20) (v := ?_) rfl (Or.inl ⟨by rfl, ?_⟩) ?_
              rotate_left
              · intro Wq hSw
                clear hSw
                go_simp
                all_goals (with_reducible rfl)
              try simp only [Act.put, x2, x3, x4, x5, x6, x7]
              refine tk (i := 21) (v := ?_) rfl (Or.inl ⟨by rfl, ?_⟩) ?_
              rotate_left
              · intro Wq hSw
                clear hSw
                go_simp
                all_goals (with_reducible rfl)
              try simp only [Act.put, x2, x3, x4, x5, x6, x7]
              refine tk (i := 22) (v := ?_) rfl (Or.inl ⟨by rfl, ?_⟩) ?_
              rotate_left
              · intro Wq hSw
                clear hSw
                go_simp
                all_goals (with_reducible rfl)
              try simp only [Act.put, x2, x3, x4, x5, x6, x7]
              refine r1 (i := 24) rfl (fun K hK => ?_)
              obtain ⟨k0, k1, k2, k3, k4⟩ := HN.out.five
              obtain ⟨f0, f1, f2, f3, f4⟩ := HN.out.free5
              go_simp
              refine hK.out _ _ ?_ (fun q2 => ?_)
              · exact ⟨((((((id q1).1.far (by dsimp only; omega) _).far (by dsimp only; omega) _).far (by dsimp only; omega) _).far (by dsimp only; omega) _).far (by dsimp only; omega) _), ((((((id q1).2.1.far (by dsimp only; omega) _).far (by dsimp only; omega) _).far (by dsimp only; omega) _).far (by dsimp only; omega) _).far (by dsimp only; omega) _), ((((((id q1).2.2.1.far (by dsimp only; omega) _).far (by dsimp only; omega) _).far (by dsimp only; omega) _).far (by dsimp only; omega) _).far (by dsimp only; omega) _), ((((((id q1).2.2.2.1.far (by dsimp only; omega) _).far (by dsimp only; omega) _).far (by dsimp only; omega) _).far (by dsimp only; omega) _).far (by dsimp only; omega) _), ((((((id q1).2.2.2.2.set (by dsimp only; omega) _).set (by dsimp only; omega) _).set (by dsimp only; omega) _).set (by dsimp only; omega) _).set (by dsimp only; omega) _)⟩
              have VN := hi (HN.out.set5 (.bool (QM ((ux * ux + uy * uy) * (vx * ty - vy * tx) + (vx * vx + vy * vy) * (tx * uy - ty * ux) + (tx * tx + ty * ty) * (ux * vy - uy * vx)))) (.int .u64 (Q0 ((ux * ux + uy * uy) * (vx * ty - vy * tx) + (vx * vx + vy * vy) * (tx * uy - ty * ux) + (tx * tx + ty * ty) * (ux * vy - uy * vx)))) (.int .u64 (Q1 ((ux * ux + uy * uy) * (vx * ty - vy * tx) + (vx * vx + vy * vy) * (tx * uy - ty * ux) + (tx * tx + ty * ty) * (ux * vy - uy * vx)))) (.int .u64 (Q2 ((ux * ux + uy * uy) * (vx * ty - vy * tx) + (vx * vx + vy * vy) * (tx * uy - ty * ux) + (tx * tx + ty * ty) * (ux * vy - uy * vx)))) (.int .u64 (Q3 ((ux * ux + uy * uy) * (vx * ty - vy * tx) + (vx * vx + vy * vy) * (tx * uy - ty * ux) + (tx * tx + ty * ty) * (ux * vy - uy * vx)))))
              clear HL
              clear hK K q1 HN k0 k1 k2 k3 k4 f0 f1 f2 f3 f4
              have q1 := q2
              clear q2
              try simp only [Act.put, x2, x3, x4, x5, x6, x7]
              refine tk (i := 25) (v := ?_) rfl (Or.inl ⟨by rfl, ?_⟩) ?_
              rotate_left
              · intro Wq hSw
                clear hSw
                go_simp
                all_goals (with_reducible rfl)
              try simp only [Act.put, x2, x3, x4, x5, x6, x7]
              refine wpAnyH_done (by kernel_rfl) ?_ _
              go_wp2_with fail
              go_meet
              case rel => exact ⟨_, rfl, VN.out, id q1⟩
          · go_simp
            refine hK.out _ _ ?_ (fun q2 => ?_)
            · exact ⟨(id q1).1.below (bl_one _ _), (id q1).2.1.below (bl_one _ _), (id q1).2.2.1.below (bl_one _ _), (id q1).2.2.2.1.below (bl_one _ _), (id q1).2.2.2.2.below (bl_one _ _)⟩
            have hge := (id q1).2.2.2.2.sz
            have HN := hi ((id q1).2.2.2.2.var5 (.bool false) (.int .u64 0) (.int .u64 0) (.int .u64 0) (.int .u64 0) 73)
            clear hK K q1
            have q1 := q2
            clear q2
            try simp only [Act.put, x2, x3, x4, x5, x6, x7]
            revert HN
            revert q1
            generalize World.alloc _ _ = W2
            intro q1 HN
            refine r1 (i := 7) rfl (fun K hK => ?_)
            go_simp
            go_at_call 64
            (with_reducible refine (square_l _ _ Hvx.out Hvy.out _).mono ?_); rintro e w1 ⟨rfl, hb1⟩
            go_wp2_with fail
            refine hK.out _ _ ?_ (fun q2 => ?_)
            · exact ⟨(id q1).1.below hb1, (id q1).2.1.below hb1, (id q1).2.2.1.below hb1, (id q1).2.2.2.1.below hb1, (id q1).2.2.2.2.below hb1⟩
            replace HN := hi (HN.out.below hb1)
            clear hK K q1 hb1
            have q1 := q2
            clear q2
            try simp only [Act.put, x2, x3, x4, x5, x6, x7]
            refine r1 (i := 10) rfl (fun K hK => ?_)
            go_simp
            go_at_call 55
            (with_reducible refine (cross_l _ _ _ _ Htx.out Hty.out Hux.out Huy.out _).mono ?_); rintro e w1 ⟨rfl, hb1⟩
            go_wp2_with fail
            refine hK.out _ _ ?_ (fun q2 => ?_)
            · exact ⟨(id q1).1.below hb1, (id q1).2.1.below hb1, (id q1).2.2.1.below hb1, (id q1).2.2.2.1.below hb1, (id q1).2.2.2.2.below hb1⟩
            replace HN := hi (HN.out.below hb1)
            clear hK K q1 hb1
            have q1 := q2
            clear q2
            try simp only [Act.put, x2, x3, x4, x5, x6, x7]
            refine r1 (i := 11) rfl (fun K hK => ?_)
            go_simp
            go_at_call 66
            (with_reducible refine (product_l _ _ Sv.out Ctu.out _).mono ?_); rintro e w1 ⟨rfl, hb1⟩
            go_wp2_with fail
            refine hK.out _ _ ?_ (fun q2 => ?_)
            · exact ⟨(id q1).1.below hb1, (id q1).2.1.below hb1, (id q1).2.2.1.below hb1, (id q1).2.2.2.1.below hb1, (id q1).2.2.2.2.below hb1⟩
            replace HN := hi (HN.out.below hb1)
            clear hK K q1 hb1
            have q1 := q2
            clear q2
            try simp only [Act.put, x2, x3, x4, x5, x6, x7]
            refine r1 (i := 13) rfl (fun K hK => ?_)
            go_simp
            go_at_call 64
            (with_reducible refine (square_l _ _ Htx.out Hty.out _).mono ?_); rintro e w1 ⟨rfl, hb1⟩
            go_wp2_with fail
            refine hK.out _ _ ?_ (fun q2 => ?_)
            · exact ⟨(id q1).1.below hb1, (id q1).2.1.below hb1, (id q1).2.2.1.below hb1, (id q1).2.2.2.1.below hb1, (id q1).2.2.2.2.below hb1⟩
            replace HN := hi (HN.out.below hb1)
            clear hK K q1 hb1
            have q1 := q2
            clear q2
            try simp only [Act.put, x2, x3, x4, x5, x6, x7]
            refine r1 (i := 16) rfl (fun K hK => ?_)
            go_simp
            go_at_call 55
            (with_reducible refine (cross_l _ _ _ _ Hux.out Huy.out Hvx.out Hvy.out _).mono ?_); rintro e w1 ⟨rfl, hb1⟩
            go_wp2_with fail
            refine hK.out _ _ ?_ (fun q2 => ?_)
            · exact ⟨(id q1).1.below hb1, (id q1).2.1.below hb1, (id q1).2.2.1.below hb1, (id q1).2.2.2.1.below hb1, (id q1).2.2.2.2.below hb1⟩
            replace HN := hi (HN.out.below hb1)
            clear hK K q1 hb1
            have q1 := q2
            clear q2
            try simp only [Act.put, x2, x3, x4, x5, x6, x7]
            refine r1 (i := 17) rfl (fun K hK => ?_)
            go_simp
            go_at_call 66
            (with_reducible refine (product_l _ _ St.out Cuv.out _).mono ?_); rintro e w1 ⟨rfl, hb1⟩
            go_wp2_with fail
            refine hK.out _ _ ?_ (fun q2 => ?_)
            · exact ⟨(id q1).1.below hb1, (id q1).2.1.below hb1, (id q1).2.2.1.below hb1, (id q1).2.2.2.1.below hb1, (id q1).2.2.2.2.below hb1⟩
            replace HN := hi (HN.out.below hb1)
            clear hK K q1 hb1
            have q1 := q2
            clear q2
            try simp only [Act.put, x2, x3, x4, x5, x6, x7]
            refine r1 (i := 18) rfl (fun K hK => ?_)
            go_simp
            refine hK.out _ _ ?_ (fun q2 => ?_)
            · exact ⟨(id q1).1.below (bl_one _ _), (id q1).2.1.below (bl_one _ _), (id q1).2.2.1.below (bl_one _ _), (id q1).2.2.2.1.below (bl_one _ _), (id q1).2.2.2.2.below (bl_one _ _)⟩
            replace HN := hi (HN.out.below (al_of (id q2).2.2.2.2 (bl_one _ _)))
            have HL := hL_of (id q1).2.2.2.2 (fun W => wides3_wd W ((ux * ux + uy * uy) * (vx * ty - vy * tx)) ((vx * vx + vy * vy) * (tx * uy - ty * ux)) ((tx * tx + ty * ty) * (ux * vy - uy * vx)) 73)
            clear hK K q1
            have q1 := q2
            clear q2
            try simp only [Act.put, x2, x3, x4, x5, x6, x7]
            revert HN
            revert HL
            revert q1
            generalize World.alloc _ _ = W2
            intro q1 HL HN
            refine r1 (i := 19) rfl (fun K hK => ?_)
            go_simp
            go_at_call 83
            (with_reducible refine (addQ3 _ _ _ BW1.out BW2.out BW3.out BW4.out BW5.out _ _ _ HL.out).mono ?_); rintro e w1 ⟨rfl, hb1⟩
            go_wp2_with fail
            refine hK.out _ _ ?_ (fun q2 => ?_)
            · exact ⟨(id q1).1.below hb1, (id q1).2.1.below hb1, (id q1).2.2.1.below hb1, (id q1).2.2.2.1.below hb1, (id q1).2.2.2.2.below hb1⟩
            replace HN := hi (HN.out.below hb1)
            replace HL := hi (HL.out.below hb1)
            clear hK K q1 hb1
            have q1 := q2
            clear q2
            try simp only [Act.put, x2, x3, x4, x5, x6, x7]
            refine tk (i := 20) (v := ?_) rfl (Or.inl ⟨by rfl, ?_⟩) ?_
            rotate_left
            · intro Wq hSw
              clear hSw
              go_simp
              all_goals (with_reducible rfl)
            try simp only [Act.put, x2, x3, x4, x5, x6, x7]
            refine tk (i := 21) (v := ?_) rfl (Or.inl ⟨by rfl, ?_⟩) ?_
            rotate_left
            · intro Wq hSw
              clear hSw
              go_simp
              all_goals (with_reducible rfl)
            try simp only [Act.put, x2, x3, x4, x5, x6, x7]
            refine tk (i := 22) (v := ?_) rfl (Or.inl ⟨by rfl, ?_⟩) ?_
            rotate_left
            · intro Wq hSw
              clear hSw
              go_simp
              all_goals (with_reducible rfl)
            try simp only [Act.put, x2, x3, x4, x5, x6, x7]
            refine r1 (i := 24) rfl (fun K hK => ?_)
            obtain ⟨k0, k1, k2, k3, k4⟩ := HN.out.five
            obtain ⟨f0, f1, f2, f3, f4⟩ := HN.out.free5
            go_simp
            refine hK.out _ _ ?_ (fun q2 => ?_)
            · exact ⟨((((((id q1).1.far (by dsimp only; omega) _).far (by dsimp only; omega) _).far (by dsimp only; omega) _).far (by dsimp only; omega) _).far (by dsimp only; omega) _), ((((((id q1).2.1.far (by dsimp only; omega) _).far (by dsimp only; omega) _).far (by dsimp only; omega) _).far (by dsimp only; omega) _).far (by dsimp only; omega) _), ((((((id q1).2.2.1.far (by dsimp only; omega) _).far (by dsimp only; omega) _).far (by dsimp only; omega) _).far (by dsimp only; omega) _).far (by dsimp only; omega) _), ((((((id q1).2.2.2.1.far (by dsimp only; omega) _).far (by dsimp only; omega) _).far (by dsimp only; omega) _).far (by dsimp only; omega) _).far (by dsimp only; omega) _), ((((((id q1).2.2.2.2.set (by dsimp only; omega) _).set (by dsimp only; omega) _).set (by dsimp only; omega) _).set (by dsimp only; omega) _).set (by dsimp only; omega) _)⟩
            have VN := hi (HN.out.set5 (.bool (QM ((ux * ux + uy * uy) * (vx * ty - vy * tx) + (vx * vx + vy * vy) * (tx * uy - ty * ux) + (tx * tx + ty * ty) * (ux * vy - uy * vx)))) (.int .u64 (Q0 ((ux * ux + uy * uy) * (vx * ty - vy * tx) + (vx * vx + vy * vy) * (tx * uy - ty * ux) + (tx * tx + ty * ty) * (ux * vy - uy * vx)))) (.int .u64 (Q1 ((ux * ux + uy * uy) * (vx * ty - vy * tx) + (vx * vx + vy * vy) * (tx * uy - ty * ux) + (tx * tx + ty * ty) * (ux * vy - uy * vx)))) (.int .u64 (Q2 ((ux * ux + uy * uy) * (vx * ty - vy * tx) + (vx * vx + vy * vy) * (tx * uy - ty * ux) + (tx * tx + ty * ty) * (ux * vy - uy * vx)))) (.int .u64 (Q3 ((ux * ux + uy * uy) * (vx * ty - vy * tx) + (vx * vx + vy * vy) * (tx * uy - ty * ux) + (tx * tx + ty * ty) * (ux * vy - uy * vx)))))
            clear HL
            clear hK K q1 HN k0 k1 k2 k3 k4 f0 f1 f2 f3 f4
            have q1 := q2
            clear q2
            try simp only [Act.put, x2, x3, x4, x5, x6, x7]
            refine tk (i := 25) (v := ?_) rfl (Or.inl ⟨by rfl, ?_⟩) ?_
            rotate_left
            · intro Wq hSw
              clear hSw
              go_simp
              all_goals (with_reducible rfl)
            try simp only [Act.put, x2, x3, x4, x5, x6, x7]
            refine wpAnyH_done (by kernel_rfl) ?_ _
            go_wp2_with fail
            go_meet
            case rel => exact ⟨_, rfl, VN.out, id q1⟩
        · go_simp
          refine hK.out _ _ ?_ (fun q2 => ?_)
          · exact ⟨(id q1).1.below (bl_one _ _), (id q1).2.1.below (bl_one _ _), (id q1).2.2.1.below (bl_one _ _), (id q1).2.2.2.1.below (bl_one _ _), (id q1).2.2.2.2.below (bl_one _ _)⟩
          have hge := (id q1).2.2.2.2.sz
          have HN := hi ((id q1).2.2.2.2.var5 (.bool false) (.int .u64 0) (.int .u64 0) (.int .u64 0) (.int .u64 0) 73)
          clear hK K q1
          have q1 := q2
          clear q2
          try simp only [Act.put, x2, x3, x4, x5, x6, x7]
          revert HN
          revert q1
          generalize World.alloc _ _ = W2
          intro q1 HN
          refine r1 (i := 5) rfl (fun K hK => ?_)
          go_simp
          go_at_call 66
          (with_reducible refine (product_l _ _ Su.out Cvt.out _).mono ?_); rintro e w1 ⟨rfl, hb1⟩
          go_wp2_with fail
          refine hK.out _ _ ?_ (fun q2 => ?_)
          · exact ⟨(id q1).1.below hb1, (id q1).2.1.below hb1, (id q1).2.2.1.below hb1, (id q1).2.2.2.1.below hb1, (id q1).2.2.2.2.below hb1⟩
          replace HN := hi (HN.out.below hb1)
          clear hK K q1 hb1
          have q1 := q2
          clear q2
          try simp only [Act.put, x2, x3, x4, x5, x6, x7]
          refine r1 (i := 7) rfl (fun K hK => ?_)
          go_simp
          go_at_call 64
          (with_reducible refine (square_l _ _ Hvx.out Hvy.out _).mono ?_); rintro e w1 ⟨rfl, hb1⟩
          go_wp2_with fail
          refine hK.out _ _ ?_ (fun q2 => ?_)
          · exact ⟨(id q1).1.below hb1, (id q1).2.1.below hb1, (id q1).2.2.1.below hb1, (id q1).2.2.2.1.below hb1, (id q1).2.2.2.2.below hb1⟩
          replace HN := hi (HN.out.below hb1)
          clear hK K q1 hb1
          have q1 := q2
          clear q2
          try simp only [Act.put, x2, x3, x4, x5, x6, x7]
          refine r1 (i := 10) rfl (fun K hK => ?_)
          go_simp
          go_at_call 55
          (with_reducible refine (cross_l _ _ _ _ Htx.out Hty.out Hux.out Huy.out _).mono ?_); rintro e w1 ⟨rfl, hb1⟩
          go_wp2_with fail
          refine hK.out _ _ ?_ (fun q2 => ?_)
          · exact ⟨(id q1).1.below hb1, (id q1).2.1.below hb1, (id q1).2.2.1.below hb1, (id q1).2.2.2.1.below hb1, (id q1).2.2.2.2.below hb1⟩
          replace HN := hi (HN.out.below hb1)
          clear hK K q1 hb1
          have q1 := q2
          clear q2
          try simp only [Act.put, x2, x3, x4, x5, x6, x7]
          refine r1 (i := 11) rfl (fun K hK => ?_)
          go_simp
          go_at_call 66
          (with_reducible refine (product_l _ _ Sv.out Ctu.out _).mono ?_); rintro e w1 ⟨rfl, hb1⟩
          go_wp2_with fail
          refine hK.out _ _ ?_ (fun q2 => ?_)
          · exact ⟨(id q1).1.below hb1, (id q1).2.1.below hb1, (id q1).2.2.1.below hb1, (id q1).2.2.2.1.below hb1, (id q1).2.2.2.2.below hb1⟩
          replace HN := hi (HN.out.below hb1)
          clear hK K q1 hb1
          have q1 := q2
          clear q2
          try simp only [Act.put, x2, x3, x4, x5, x6, x7]
          refine r1 (i := 13) rfl (fun K hK => ?_)
          go_simp
          go_at_call 64
          (with_reducible refine (square_l _ _ Htx.out Hty.out _).mono ?_); rintro e w1 ⟨rfl, hb1⟩
          go_wp2_with fail
          refine hK.out _ _ ?_ (fun q2 => ?_)
          · exact ⟨(id q1).1.below hb1, (id q1).2.1.below hb1, (id q1).2.2.1.below hb1, (id q1).2.2.2.1.below hb1, (id q1).2.2.2.2.below hb1⟩
          replace HN := hi (HN.out.below hb1)
          clear hK K q1 hb1
          have q1 := q2
          clear q2
          try simp only [Act.put, x2, x3, x4, x5, x6, x7]
          refine r1 (i := 16) rfl (fun K hK => ?_)
          go_simp
          go_at_call 55
          (with_reducible refine (cross_l _ _ _ _ Hux.out Huy.out Hvx.out Hvy.out _).mono ?_); rintro e w1 ⟨rfl, hb1⟩
          go_wp2_with fail
          refine hK.out _ _ ?_ (fun q2 => ?_)
          · exact ⟨(id q1).1.below hb1, (id q1).2.1.below hb1, (id q1).2.2.1.below hb1, (id q1).2.2.2.1.below hb1, (id q1).2.2.2.2.below hb1⟩
          replace HN := hi (HN.out.below hb1)
          clear hK K q1 hb1
          have q1 := q2
          clear q2
          try simp only [Act.put, x2, x3, x4, x5, x6, x7]
          refine r1 (i := 17) rfl (fun K hK => ?_)
          go_simp
          go_at_call 66
          (with_reducible refine (product_l _ _ St.out Cuv.out _).mono ?_); rintro e w1 ⟨rfl, hb1⟩
          go_wp2_with fail
          refine hK.out _ _ ?_ (fun q2 => ?_)
          · exact ⟨(id q1).1.below hb1, (id q1).2.1.below hb1, (id q1).2.2.1.below hb1, (id q1).2.2.2.1.below hb1, (id q1).2.2.2.2.below hb1⟩
          replace HN := hi (HN.out.below hb1)
          clear hK K q1 hb1
          have q1 := q2
          clear q2
          try simp only [Act.put, x2, x3, x4, x5, x6, x7]
          refine r1 (i := 18) rfl (fun K hK => ?_)
          go_simp
          refine hK.out _ _ ?_ (fun q2 => ?_)
          · exact ⟨(id q1).1.below (bl_one _ _), (id q1).2.1.below (bl_one _ _), (id q1).2.2.1.below (bl_one _ _), (id q1).2.2.2.1.below (bl_one _ _), (id q1).2.2.2.2.below (bl_one _ _)⟩
          replace HN := hi (HN.out.below (al_of (id q2).2.2.2.2 (bl_one _ _)))
          have HL := hL_of (id q1).2.2.2.2 (fun W => wides3_wd W ((ux * ux + uy * uy) * (vx * ty - vy * tx)) ((vx * vx + vy * vy) * (tx * uy - ty * ux)) ((tx * tx + ty * ty) * (ux * vy - uy * vx)) 73)
          clear hK K q1
          have q1 := q2
          clear q2
          try simp only [Act.put, x2, x3, x4, x5, x6, x7]
          revert HN
          revert HL
          revert q1
          generalize World.alloc _ _ = W2
          intro q1 HL HN
          refine r1 (i := 19) rfl (fun K hK => ?_)
          go_simp
          go_at_call 83
          (with_reducible refine (addQ3 _ _ _ BW1.out BW2.out BW3.out BW4.out BW5.out _ _ _ HL.out).mono ?_); rintro e w1 ⟨rfl, hb1⟩
          go_wp2_with fail
          refine hK.out _ _ ?_ (fun q2 => ?_)
          · exact ⟨(id q1).1.below hb1, (id q1).2.1.below hb1, (id q1).2.2.1.below hb1, (id q1).2.2.2.1.below hb1, (id q1).2.2.2.2.below hb1⟩
          replace HN := hi (HN.out.below hb1)
          replace HL := hi (HL.out.below hb1)
          clear hK K q1 hb1
          have q1 := q2
          clear q2
          try simp only [Act.put, x2, x3, x4, x5, x6, x7]
          refine tk (i := 20) (v := ?_) rfl (Or.inl ⟨by rfl, ?_⟩) ?_
          rotate_left
          · intro Wq hSw
            clear hSw
            go_simp
            all_goals (with_reducible rfl)
          try simp only [Act.put, x2, x3, x4, x5, x6, x7]
          refine tk (i := 21) (v := ?_) rfl (Or.inl ⟨by rfl, ?_⟩) ?_
          rotate_left
          · intro Wq hSw
            clear hSw
            go_simp
            all_goals (with_reducible rfl)
          try simp only [Act.put, x2, x3, x4, x5, x6, x7]
          refine tk (i := 22) (v := ?_) rfl (Or.inl ⟨by rfl, ?_⟩) ?_
          rotate_left
          · intro Wq hSw
            clear hSw
            go_simp
            all_goals (with_reducible rfl)
          try simp only [Act.put, x2, x3, x4, x5, x6, x7]
          refine r1 (i := 24) rfl (fun K hK => ?_)
          obtain ⟨k0, k1, k2, k3, k4⟩ := HN.out.five
          obtain ⟨f0, f1, f2, f3, f4⟩ := HN.out.free5
          go_simp
          refine hK.out _ _ ?_ (fun q2 => ?_)
          · exact ⟨((((((id q1).1.far (by dsimp only; omega) _).far (by dsimp only; omega) _).far (by dsimp only; omega) _).far (by dsimp only; omega) _).far (by dsimp only; omega) _), ((((((id q1).2.1.far (by dsimp only; omega) _).far (by dsimp only; omega) _).far (by dsimp only; omega) _).far (by dsimp only; omega) _).far (by dsimp only; omega) _), ((((((id q1).2.2.1.far (by dsimp only; omega) _).far (by dsimp only; omega) _).far (by dsimp only; omega) _).far (by dsimp only; omega) _).far (by dsimp only; omega) _), ((((((id q1).2.2.2.1.far (by dsimp only; omega) _).far (by dsimp only; omega) _).far (by dsimp only; omega) _).far (by dsimp only; omega) _).far (by dsimp only; omega) _), ((((((id q1).2.2.2.2.set (by dsimp only; omega) _).set (by dsimp only; omega) _).set (by dsimp only; omega) _).set (by dsimp only; omega) _).set (by dsimp only; omega) _)⟩
          have VN := hi (HN.out.set5 (.bool (QM ((ux * ux + uy * uy) * (vx * ty - vy * tx) + (vx * vx + vy * vy) * (tx * uy - ty * ux) + (tx * tx + ty * ty) * (ux * vy - uy * vx)))) (.int .u64 (Q0 ((ux * ux + uy * uy) * (vx * ty - vy * tx) + (vx * vx + vy * vy) * (tx * uy - ty * ux) + (tx * tx + ty * ty) * (ux * vy - uy * vx)))) (.int .u64 (Q1 ((ux * ux + uy * uy) * (vx * ty - vy * tx) + (vx * vx + vy * vy) * (tx * uy - ty * ux) + (tx * tx + ty * ty) * (ux * vy - uy * vx)))) (.int .u64 (Q2 ((ux * ux + uy * uy) * (vx * ty - vy * tx) + (vx * vx + vy * vy) * (tx * uy - ty * ux) + (tx * tx + ty * ty) * (ux * vy - uy * vx)))) (.int .u64 (Q3 ((ux * ux + uy * uy) * (vx * ty - vy * tx) + (vx * vx + vy * vy) * (tx * uy - ty * ux) + (tx * tx + ty * ty) * (ux * vy - uy * vx)))))
          clear HL
          clear hK K q1 HN k0 k1 k2 k3 k4 f0 f1 f2 f3 f4
          have q1 := q2
          clear q2
          try simp only [Act.put, x2, x3, x4, x5, x6, x7]
          refine tk (i := 25) (v := ?_) rfl (Or.inl ⟨by rfl, ?_⟩) ?_
          rotate_left
          · intro Wq hSw
            clear hSw
            go_simp
            all_goals (with_reducible rfl)
          try simp only [Act.put, x2, x3, x4, x5, x6, x7]
          refine wpAnyH_done (by kernel_rfl) ?_ _
          go_wp2_with fail
          go_meet
          case rel => exact ⟨_, rfl, VN.out, id q1⟩
      · go_simp
        refine hK.out _ _ ?_ (fun q2 => ?_)
        · exact ⟨(id q1).1.below (bl_one _ _), (id q1).2.1.below (bl_one _ _), (id q1).2.2.1.below (bl_one _ _), (id q1).2.2.2.1.below (bl_one _ _), (id q1).2.2.2.2.below (bl_one _ _)⟩
        have hge := (id q1).2.2.2.2.sz
        have HN := hi ((id q1).2.2.2.2.var5 (.bool false) (.int .u64 0) (.int .u64 0) (.int .u64 0) (.int .u64 0) 73)
        clear hK K q1
        have q1 := q2
        clear q2
        try simp only [Act.put, x2, x3, x4, x5, x6, x7]
        revert HN
        revert q1
        generalize World.alloc _ _ = W2
        intro q1 HN
        refine r1 (i := 4) rfl (fun K hK => ?_)
        go_simp
        go_at_call 55
        (with_reducible refine (cross_l _ _ _ _ Hvx.out Hvy.out Htx.out Hty.out _).mono ?_); rintro e w1 ⟨rfl, hb1⟩
        go_wp2_with fail
        refine hK.out _ _ ?_ (fun q2 => ?_)
        · exact ⟨(id q1).1.below hb1, (id q1).2.1.below hb1, (id q1).2.2.1.below hb1, (id q1).2.2.2.1.below hb1, (id q1).2.2.2.2.below hb1⟩
        replace HN := hi (HN.out.below hb1)
        clear hK K q1 hb1
        have q1 := q2
        clear q2
        try simp only [Act.put, x2, x3, x4, x5, x6, x7]
        refine r1 (i := 5) rfl (fun K hK => ?_)
        go_simp
        go_at_call 66
        (with_reducible refine (product_l _ _ Su.out Cvt.out _).mono ?_); rintro e w1 ⟨rfl, hb1⟩
        go_wp2_with fail
        refine hK.out _ _ ?_ (fun q2 => ?_)
        · exact ⟨(id q1).1.below hb1, (id q1).2.1.below hb1, (id q1).2.2.1.below hb1, (id q1).2.2.2.1.below hb1, (id q1).2.2.2.2.below hb1⟩
        replace HN := hi (HN.out.below hb1)
        clear hK K q1 hb1
        have q1 := q2
        clear q2
        try simp only [Act.put, x2, x3, x4, x5, x6, x7]
        refine r1 (i := 7) rfl (fun K hK => ?_)
        go_simp
        go_at_call 64
        (with_reducible refine (square_l _ _ Hvx.out Hvy.out _).mono ?_); rintro e w1 ⟨rfl, hb1⟩
        go_wp2_with fail
        refine hK.out _ _ ?_ (fun q2 => ?_)
        · exact ⟨(id q1).1.below hb1, (id q1).2.1.below hb1, (id q1).2.2.1.below hb1, (id q1).2.2.2.1.below hb1, (id q1).2.2.2.2.below hb1⟩
        replace HN := hi (HN.out.below hb1)
        clear hK K q1 hb1
        have q1 := q2
        clear q2
        try simp only [Act.put, x2, x3, x4, x5, x6, x7]
        refine r1 (i := 10) rfl (fun K hK => ?_)
        go_simp
        go_at_call 55
        (with_reducible refine (cross_l _ _ _ _ Htx.out Hty.out Hux.out Huy.out _).mono ?_); rintro e w1 ⟨rfl, hb1⟩
        go_wp2_with fail
        refine hK.out _ _ ?_ (fun q2 => ?_)
        · exact ⟨(id q1).1.below hb1, (id q1).2.1.below hb1, (id q1).2.2.1.below hb1, (id q1).2.2.2.1.below hb1, (id q1).2.2.2.2.below hb1⟩
        replace HN := hi (HN.out.below hb1)
        clear hK K q1 hb1
        have q1 := q2
        clear q2
        try simp only [Act.put, x2, x3, x4, x5, x6, x7]
        refine r1 (i := 11) rfl (fun K hK => ?_)
        go_simp
        go_at_call 66
        (with_reducible refine (product_l _ _ Sv.out Ctu.out _).mono ?_); rintro e w1 ⟨rfl, hb1⟩
        go_wp2_with fail
        refine hK.out _ _ ?_ (fun q2 => ?_)
        · exact ⟨(id q1).1.below hb1, (id q1).2.1.below hb1, (id q1).2.2.1.below hb1, (id q1).2.2.2.1.below hb1, (id q1).2.2.2.2.below hb1⟩
        replace HN := hi (HN.out.below hb1)
        clear hK K q1 hb1
        have q1 := q2
        clear q2
        try simp only [Act.put, x2, x3, x4, x5, x6, x7]
        refine r1 (i := 13) rfl (fun K hK => ?_)
        go_simp
        go_at_call 64
        (with_reducible refine (square_l _ _ Htx.out Hty.out _).mono ?_); rintro e w1 ⟨rfl, hb1⟩
        go_wp2_with fail
        refine hK.out _ _ ?_ (fun q2 => ?_)
        · exact ⟨(id q1).1.below hb1, (id q1).2.1.below hb1, (id q1).2.2.1.below hb1, (id q1).2.2.2.1.below hb1, (id q1).2.2.2.2.below hb1⟩
        replace HN := hi (HN.out.below hb1)
        clear hK K q1 hb1
        have q1 := q2
        clear q2
        try simp only [Act.put, x2, x3, x4, x5, x6, x7]
        refine r1 (i := 16) rfl (fun K hK => ?_)
        go_simp
        go_at_call 55
        (with_reducible refine (cross_l _ _ _ _ Hux.out Huy.out Hvx.out Hvy.out _).mono ?_); rintro e w1 ⟨rfl, hb1⟩
        go_wp2_with fail
        refine hK.out _ _ ?_ (fun q2 => ?_)
        · exact ⟨(id q1).1.below hb1, (id q1).2.1.below hb1, (id q1).2.2.1.below hb1, (id q1).2.2.2.1.below hb1, (id q1).2.2.2.2.below hb1⟩
        replace HN := hi (HN.out.below hb1)
        clear hK K q1 hb1
        have q1 := q2
        clear q2
        try simp only [Act.put, x2, x3, x4, x5, x6, x7]
        refine r1 (i := 17) rfl (fun K hK => ?_)
        go_simp
        go_at_call 66
        (with_reducible refine (product_l _ _ St.out Cuv.out _).mono ?_); rintro e w1 ⟨rfl, hb1⟩
        go_wp2_with fail
        refine hK.out _ _ ?_ (fun q2 => ?_)
        · exact ⟨(id q1).1.below hb1, (id q1).2.1.below hb1, (id q1).2.2.1.below hb1, (id q1).2.2.2.1.below hb1, (id q1).2.2.2.2.below hb1⟩
        replace HN := hi (HN.out.below hb1)
        clear hK K q1 hb1
        have q1 := q2
        clear q2
        try simp only [Act.put, x2, x3, x4, x5, x6, x7]
        refine r1 (i := 18) rfl (fun K hK => ?_)
        go_simp
        refine hK.out _ _ ?_ (fun q2 => ?_)
        · exact ⟨(id q1).1.below (bl_one _ _), (id q1).2.1.below (bl_one _ _), (id q1).2.2.1.below (bl_one _ _), (id q1).2.2.2.1.below (bl_one _ _), (id q1).2.2.2.2.below (bl_one _ _)⟩
        replace HN := hi (HN.out.below (al_of (id q2).2.2.2.2 (bl_one _ _)))
        have HL := hL_of (id q1).2.2.2.2 (fun W => wides3_wd W ((ux * ux + uy * uy) * (vx * ty - vy * tx)) ((vx * vx + vy * vy) * (tx * uy - ty * ux)) ((tx * tx + ty * ty) * (ux * vy - uy * vx)) 73)
        clear hK K q1
        have q1 := q2
        clear q2
        try simp only [Act.put, x2, x3, x4, x5, x6, x7]
        revert HN
        revert HL
        revert q1
        generalize World.alloc _ _ = W2
        intro q1 HL HN
        refine r1 (i := 19) rfl (fun K hK => ?_)
        go_simp
        go_at_call 83
        (with_reducible refine (addQ3 _ _ _ BW1.out BW2.out BW3.out BW4.out BW5.out _ _ _ HL.out).mono ?_); rintro e w1 ⟨rfl, hb1⟩
        go_wp2_with fail
        refine hK.out _ _ ?_ (fun q2 => ?_)
        · exact ⟨(id q1).1.below hb1, (id q1).2.1.below hb1, (id q1).2.2.1.below hb1, (id q1).2.2.2.1.below hb1, (id q1).2.2.2.2.below hb1⟩
        replace HN := hi (HN.out.below hb1)
        replace HL := hi (HL.out.below hb1)
        clear hK K q1 hb1
        have q1 := q2
        clear q2
        try simp only [Act.put, x2, x3, x4, x5, x6, x7]
        refine tk (i := 20) (v := ?_) rfl (Or.inl ⟨by rfl, ?_⟩) ?_
        rotate_left
        · intro Wq hSw
          clear hSw
          go_simp
          all_goals (with_reducible rfl)
        try simp only [Act.put, x2, x3, x4, x5, x6, x7]
        refine tk (i := 21) (v := ?_) rfl (Or.inl ⟨by rfl, ?_⟩) ?_
        rotate_left
        · intro Wq hSw
          clear hSw
          go_simp
          all_goals (with_reducible rfl)
        try simp only [Act.put, x2, x3, x4, x5, x6, x7]
        refine tk (i := 22) (v := ?_) rfl (Or.inl ⟨by rfl, ?_⟩) ?_
        rotate_left
        · intro Wq hSw
          clear hSw
          go_simp
          all_goals (with_reducible rfl)
        try simp only [Act.put, x2, x3, x4, x5, x6, x7]
        refine r1 (i := 24) rfl (fun K hK => ?_)
        obtain ⟨k0, k1, k2, k3, k4⟩ := HN.out.five
        obtain ⟨f0, f1, f2, f3, f4⟩ := HN.out.free5
        go_simp
        refine hK.out _ _ ?_ (fun q2 => ?_)
        · exact ⟨((((((id q1).1.far (by dsimp only; omega) _).far (by dsimp only; omega) _).far (by dsimp only; omega) _).far (by dsimp only; omega) _).far (by dsimp only; omega) _), ((((((id q1).2.1.far (by dsimp only; omega) _).far (by dsimp only; omega) _).far (by dsimp only; omega) _).far (by dsimp only; omega) _).far (by dsimp only; omega) _), ((((((id q1).2.2.1.far (by dsimp only; omega) _).far (by dsimp only; omega) _).far (by dsimp only; omega) _).far (by dsimp only; omega) _).far (by dsimp only; omega) _), ((((((id q1).2.2.2.1.far (by dsimp only; omega) _).far (by dsimp only; omega) _).far (by dsimp only; omega) _).far (by dsimp only; omega) _).far (by dsimp only; omega) _), ((((((id q1).2.2.2.2.set (by dsimp only; omega) _).set (by dsimp only; omega) _).set (by dsimp only; omega) _).set (by dsimp only; omega) _).set (by dsimp only; omega) _)⟩
        have VN := hi (HN.out.set5 (.bool (QM ((ux * ux + uy * uy) * (vx * ty - vy * tx) + (vx * vx + vy * vy) * (tx * uy - ty * ux) + (tx * tx + ty * ty) * (ux * vy - uy * vx)))) (.int .u64 (Q0 ((ux * ux + uy * uy) * (vx * ty - vy * tx) + (vx * vx + vy * vy) * (tx * uy - ty * ux) + (tx * tx + ty * ty) * (ux * vy - uy * vx)))) (.int .u64 (Q1 ((ux * ux + uy * uy) * (vx * ty - vy * tx) + (vx * vx + vy * vy) * (tx * uy - ty * ux) + (tx * tx + ty * ty) * (ux * vy - uy * vx)))) (.int .u64 (Q2 ((ux * ux + uy * uy) * (vx * ty - vy * tx) + (vx * vx + vy * vy) * (tx * uy - ty * ux) + (tx * tx + ty * ty) * (ux * vy - uy * vx)))) (.int .u64 (Q3 ((ux * ux + uy * uy) * (vx * ty - vy * tx) + (vx * vx + vy * vy) * (tx * uy - ty * ux) + (tx * tx + ty * ty) * (ux * vy - uy * vx)))))
        clear HL
        clear hK K q1 HN k0 k1 k2 k3 k4 f0 f1 f2 f3 f4
        have q1 := q2
        clear q2
        try simp only [Act.put, x2, x3, x4, x5, x6, x7]
        refine tk (i := 25) (v := ?_) rfl (Or.inl ⟨by rfl, ?_⟩) ?_
        rotate_left
        · intro Wq hSw
          clear hSw
          go_simp
          all_goals (with_reducible rfl)
        try simp only [Act.put, x2, x3, x4, x5, x6, x7]
        refine wpAnyH_done (by kernel_rfl) ?_ _
        go_wp2_with fail
        go_meet
        case rel => exact ⟨_, rfl, VN.out, id q1⟩
    · go_simp
      refine hK.out _ _ ?_ (fun q2 => ?_)
      · exact ⟨(id q1).1.below (bl_one _ _), (id q1).2.1.below (bl_one _ _), (id q1).2.2.1.below (bl_one _ _), (id q1).2.2.2.1.below (bl_one _ _), (id q1).2.2.2.2.below (bl_one _ _)⟩
      have hge := (id q1).2.2.2.2.sz
      have HN := hi ((id q1).2.2.2.2.var5 (.bool false) (.int .u64 0) (.int .u64 0) (.int .u64 0) (.int .u64 0) 73)
      clear hK K q1
      have q1 := q2
      clear q2
      try simp only [Act.put, x2, x3, x4, x5, x6, x7]
      revert HN
      revert q1
      generalize World.alloc _ _ = W2
      intro q1 HN
      refine r1 (i := 1) rfl (fun K hK => ?_)
      go_simp
      go_at_call 64
      (with_reducible refine (square_l _ _ Hux.out Huy.out _).mono ?_); rintro e w1 ⟨rfl, hb1⟩
      go_wp2_with fail
      refine hK.out _ _ ?_ (fun q2 => ?_)
      · exact ⟨(id q1).1.below hb1, (id q1).2.1.below hb1, (id q1).2.2.1.below hb1, (id q1).2.2.2.1.below hb1, (id q1).2.2.2.2.below hb1⟩
      replace HN := hi (HN.out.below hb1)
      clear hK K q1 hb1
      have q1 := q2
      clear q2
      try simp only [Act.put, x2, x3, x4, x5, x6, x7]
      refine r1 (i := 4) rfl (fun K hK => ?_)
      go_simp
      go_at_call 55
      (with_reducible refine (cross_l _ _ _ _ Hvx.out Hvy.out Htx.out Hty.out _).mono ?_); rintro e w1 ⟨rfl, hb1⟩
      go_wp2_with fail
      refine hK.out _ _ ?_ (fun q2 => ?_)
      · exact ⟨(id q1).1.below hb1, (id q1).2.1.below hb1, (id q1).2.2.1.below hb1, (id q1).2.2.2.1.below hb1, (id q1).2.2.2.2.below hb1⟩
      replace HN := hi (HN.out.below hb1)
      clear hK K q1 hb1
      have q1 := q2
      clear q2
      try simp only [Act.put, x2, x3, x4, x5, x6, x7]
      refine r1 (i := 5) rfl (fun K hK => ?_)
      go_simp
      go_at_call 66
      (with_reducible refine (product_l _ _ Su.out Cvt.out _).mono ?_); rintro e w1 ⟨rfl, hb1⟩
      go_wp2_with fail
      refine hK.out _ _ ?_ (fun q2 => ?_)
      · exact ⟨(id q1).1.below hb1, (id q1).2.1.below hb1, (id q1).2.2.1.below hb1, (id q1).2.2.2.1.below hb1, (id q1).2.2.2.2.below hb1⟩
      replace HN := hi (HN.out.below hb1)
      clear hK K q1 hb1
      have q1 := q2
      clear q2
      try simp only [Act.put, x2, x3, x4, x5, x6, x7]
      refine r1 (i := 7) rfl (fun K hK => ?_)
      go_simp
      go_at_call 64
      (with_reducible refine (square_l _ _ Hvx.out Hvy.out _).mono ?_); rintro e w1 ⟨rfl, hb1⟩
      go_wp2_with fail
      refine hK.out _ _ ?_ (fun q2 => ?_)
      · exact ⟨(id q1).1.below hb1, (id q1).2.1.below hb1, (id q1).2.2.1.below hb1, (id q1).2.2.2.1.below hb1, (id q1).2.2.2.2.below hb1⟩
      replace HN := hi (HN.out.below hb1)
      clear hK K q1 hb1
      have q1 := q2
      clear q2
      try simp only [Act.put, x2, x3, x4, x5, x6, x7]
      refine r1 (i := 10) rfl (fun K hK => ?_)
      go_simp
      go_at_call 55
      (with_reducible refine (cross_l _ _ _ _ Htx.out Hty.out Hux.out Huy.out _).mono ?_); rintro e w1 ⟨rfl, hb1⟩
      go_wp2_with fail
      refine hK.out _ _ ?_ (fun q2 => ?_)
      · exact ⟨(id q1).1.below hb1, (id q1).2.1.below hb1, (id q1).2.2.1.below hb1, (id q1).2.2.2.1.below hb1, (id q1).2.2.2.2.below hb1⟩
      replace HN := hi (HN.out.below hb1)
      clear hK K q1 hb1
      have q1 := q2
      clear q2
      try simp only [Act.put, x2, x3, x4, x5, x6, x7]
      refine r1 (i := 11) rfl (fun K hK => ?_)
      go_simp
      go_at_call 66
      (with_reducible refine (product_l _ _ Sv.out Ctu.out _).mono ?_); rintro e w1 ⟨rfl, hb1⟩
      go_wp2_with fail
      refine hK.out _ _ ?_ (fun q2 => ?_)
      · exact ⟨(id q1).1.below hb1, (id q1).2.1.below hb1, (id q1).2.2.1.below hb1, (id q1).2.2.2.1.below hb1, (id q1).2.2.2.2.below hb1⟩
      replace HN := hi (HN.out.below hb1)
      clear hK K q1 hb1
      have q1 := q2
      clear q2
      try simp only [Act.put, x2, x3, x4, x5, x6, x7]
      refine r1 (i := 13) rfl (fun K hK => ?_)
      go_simp
      go_at_call 64
      (with_reducible refine (square_l _ _ Htx.out Hty.out _).mono ?_); rintro e w1 ⟨rfl, hb1⟩
      go_wp2_with fail
      refine hK.out _ _ ?_ (fun q2 => ?_)
      · exact ⟨(id q1).1.below hb1, (id q1).2.1.below hb1, (id q1).2.2.1.below hb1, (id q1).2.2.2.1.below hb1, (id q1).2.2.2.2.below hb1⟩
      replace HN := hi (HN.out.below hb1)
      clear hK K q1 hb1
      have q1 := q2
      clear q2
      try simp only [Act.put, x2, x3, x4, x5, x6, x7]
      refine r1 (i := 16) rfl (fun K hK => ?_)
      go_simp
      go_at_call 55
      (with_reducible refine (cross_l _ _ _ _ Hux.out Huy.out Hvx.out Hvy.out _).mono ?_); rintro e w1 ⟨rfl, hb1⟩
      go_wp2_with fail
      refine hK.out _ _ ?_ (fun q2 => ?_)
      · exact ⟨(id q1).1.below hb1, (id q1).2.1.below hb1, (id q1).2.2.1.below hb1, (id q1).2.2.2.1.below hb1, (id q1).2.2.2.2.below hb1⟩
      replace HN := hi (HN.out.below hb1)
      clear hK K q1 hb1
      have q1 := q2
      clear q2
      try simp only [Act.put, x2, x3, x4, x5, x6, x7]
      refine r1 (i := 17) rfl (fun K hK => ?_)
      go_simp
      go_at_call 66
      (with_reducible refine (product_l _ _ St.out Cuv.out _).mono ?_); rintro e w1 ⟨rfl, hb1⟩
      go_wp2_with fail
      refine hK.out _ _ ?_ (fun q2 => ?_)
      · exact ⟨(id q1).1.below hb1, (id q1).2.1.below hb1, (id q1).2.2.1.below hb1, (id q1).2.2.2.1.below hb1, (id q1).2.2.2.2.below hb1⟩
      replace HN := hi (HN.out.below hb1)
      clear hK K q1 hb1
      have q1 := q2
      clear q2
      try simp only [Act.put, x2, x3, x4, x5, x6, x7]
      refine r1 (i := 18) rfl (fun K hK => ?_)
      go_simp
      refine hK.out _ _ ?_ (fun q2 => ?_)
      · exact ⟨(id q1).1.below (bl_one _ _), (id q1).2.1.below (bl_one _ _), (id q1).2.2.1.below (bl_one _ _), (id q1).2.2.2.1.below (bl_one _ _), (id q1).2.2.2.2.below (bl_one _ _)⟩
      replace HN := hi (HN.out.below (al_of (id q2).2.2.2.2 (bl_one _ _)))
      have HL := hL_of (id q1).2.2.2.2 (fun W => wides3_wd W ((ux * ux + uy * uy) * (vx * ty - vy * tx)) ((vx * vx + vy * vy) * (tx * uy - ty * ux)) ((tx * tx + ty * ty) * (ux * vy - uy * vx)) 73)
      clear hK K q1
      have q1 := q2
      clear q2
      try simp only [Act.put, x2, x3, x4, x5, x6, x7]
      revert HN
      revert HL
      revert q1
      generalize World.alloc _ _ = W2
      intro q1 HL HN
      refine r1 (i := 19) rfl (fun K hK => ?_)
      go_simp
      go_at_call 83
      (with_reducible refine (addQ3 _ _ _ BW1.out BW2.out BW3.out BW4.out BW5.out _ _ _ HL.out).mono ?_); rintro e w1 ⟨rfl, hb1⟩
      go_wp2_with fail
      refine hK.out _ _ ?_ (fun q2 => ?_)
      · exact ⟨(id q1).1.below hb1, (id q1).2.1.below hb1, (id q1).2.2.1.below hb1, (id q1).2.2.2.1.below hb1, (id q1).2.2.2.2.below hb1⟩
      replace HN := hi (HN.out.below hb1)
      replace HL := hi (HL.out.below hb1)
      clear hK K q1 hb1
      have q1 := q2
      clear q2
      try simp only [Act.put, x2, x3, x4, x5, x6, x7]
      refine tk (i := 20) (v := ?_) rfl (Or.inl ⟨by rfl, ?_⟩) ?_
      rotate_left
      · intro Wq hSw
        clear hSw
        go_simp
        all_goals (with_reducible rfl)
      try simp only [Act.put, x2, x3, x4, x5, x6, x7]
      refine tk (i := 21) (v := ?_) rfl (Or.inl ⟨by rfl, ?_⟩) ?_
      rotate_left
      · intro Wq hSw
        clear hSw
        go_simp
        all_goals (with_reducible rfl)
      try simp only [Act.put, x2, x3, x4, x5, x6, x7]
      refine tk (i := 22) (v := ?_) rfl (Or.inl ⟨by rfl, ?_⟩) ?_
      rotate_left
      · intro Wq hSw
        clear hSw
        go_simp
        all_goals (with_reducible rfl)
      try simp only [Act.put, x2, x3, x4, x5, x6, x7]
      refine r1 (i := 24) rfl (fun K hK => ?_)
      obtain ⟨k0, k1, k2, k3, k4⟩ := HN.out.five
      obtain ⟨f0, f1, f2, f3, f4⟩ := HN.out.free5
      go_simp
      refine hK.out _ _ ?_ (fun q2 => ?_)
      · exact ⟨((((((id q1).1.far (by dsimp only; omega) _).far (by dsimp only; omega) _).far (by dsimp only; omega) _).far (by dsimp only; omega) _).far (by dsimp only; omega) _), ((((((id q1).2.1.far (by dsimp only; omega) _).far (by dsimp only; omega) _).far (by dsimp only; omega) _).far (by dsimp only; omega) _).far (by dsimp only; omega) _), ((((((id q1).2.2.1.far (by dsimp only; omega) _).far (by dsimp only; omega) _).far (by dsimp only; omega) _).far (by dsimp only; omega) _).far (by dsimp only; omega) _), ((((((id q1).2.2.2.1.far (by dsimp only; omega) _).far (by dsimp only; omega) _).far (by dsimp only; omega) _).far (by dsimp only; omega) _).far (by dsimp only; omega) _), ((((((id q1).2.2.2.2.set (by dsimp only; omega) _).set (by dsimp only; omega) _).set (by dsimp only; omega) _).set (by dsimp only; omega) _).set (by dsimp only; omega) _)⟩
      have VN := hi (HN.out.set5 (.bool (QM ((ux * ux + uy * uy) * (vx * ty - vy * tx) + (vx * vx + vy * vy) * (tx * uy - ty * ux) + (tx * tx + ty * ty) * (ux * vy - uy * vx)))) (.int .u64 (Q0 ((ux * ux + uy * uy) * (vx * ty - vy * tx) + (vx * vx + vy * vy) * (tx * uy - ty * ux) + (tx * tx + ty * ty) * (ux * vy - uy * vx)))) (.int .u64 (Q1 ((ux * ux + uy * uy) * (vx * ty - vy * tx) + (vx * vx + vy * vy) * (tx * uy - ty * ux) + (tx * tx + ty * ty) * (ux * vy - uy * vx)))) (.int .u64 (Q2 ((ux * ux + uy * uy) * (vx * ty - vy * tx) + (vx * vx + vy * vy) * (tx * uy - ty * ux) + (tx * tx + ty * ty) * (ux * vy - uy * vx)))) (.int .u64 (Q3 ((ux * ux + uy * uy) * (vx * ty - vy * tx) + (vx * vx + vy * vy) * (tx * uy - ty * ux) + (tx * tx + ty * ty) * (ux * vy - uy * vx)))))
      clear HL
      clear hK K q1 HN k0 k1 k2 k3 k4 f0 f1 f2 f3 f4
      have q1 := q2
      clear q2
      try simp only [Act.put, x2, x3, x4, x5, x6, x7]
      refine tk (i := 25) (v := ?_) rfl (Or.inl ⟨by rfl, ?_⟩) ?_
      rotate_left
      · intro Wq hSw
        clear hSw
        go_simp
        all_goals (with_reducible rfl)
      try simp only [Act.put, x2, x3, x4, x5, x6, x7]
      refine wpAnyH_done (by kernel_rfl) ?_ _
      go_wp2_with fail
      go_meet
      case rel => exact ⟨_, rfl, VN.out, id q1⟩
  case rest =>
    obtain ⟨g, rfl, vg, hS⟩ := hcut
    obtain ⟨k0, k1, k2, k3, k4⟩ := vg.five
    obtain ⟨r0, r1, r2, r3, r4, vr⟩ := hS.2.2.2.1
    obtain ⟨d0, d1, d2, d3, d4⟩ := vr.five
    obtain ⟨f0, f1, f2, f3, f4⟩ := vr.free5
    have HG := hi hS.2.2.2.2
    clear hS vr vg HS0
    go_wp2_with fail
    refine bodyPost_ret (v := (.agg #[.bool (QM ((ux * ux + uy * uy) * (vx * ty - vy * tx) + (vx * vx + vy * vy) * (tx * uy - ty * ux) + (tx * tx + ty * ty) * (ux * vy - uy * vx))), .int .u64 (Q0 ((ux * ux + uy * uy) * (vx * ty - vy * tx) + (vx * vx + vy * vy) * (tx * uy - ty * ux) + (tx * tx + ty * ty) * (ux * vy - uy * vx))), .int .u64 (Q1 ((ux * ux + uy * uy) * (vx * ty - vy * tx) + (vx * vx + vy * vy) * (tx * uy - ty * ux) + (tx * tx + ty * ty) * (ux * vy - uy * vx))), .int .u64 (Q2 ((ux * ux + uy * uy) * (vx * ty - vy * tx) + (vx * vx + vy * vy) * (tx * uy - ty * ux) + (tx * tx + ty * ty) * (ux * vy - uy * vx))), .int .u64 (Q3 ((ux * ux + uy * uy) * (vx * ty - vy * tx) + (vx * vx + vy * vy) * (tx * uy - ty * ux) + (tx * tx + ty * ty) * (ux * vy - uy * vx)))])) (by simp [results, Try.results60, go_sem, d0, d1, d2, d3, d4]; done) rfl ⟨rfl, ?_⟩
    have hb := HG.out.hb
    repeat (first | (with_reducible exact Below.refl _ _) | (with_reducible refine bl_alloc ?_ _) | (with_reducible refine Below.drew ?_) | (with_reducible refine below_drewN' ?_ _) | ((with_reducible refine bl_set ?_ ?_ _); (rotate_left; (dsimp only; omega))))
    exact hb
end Go.Proofs.Ytojfggnimmaemaa

/-
  Contract of pred.InCircle.
-/
namespace Go.Proofs.Ytojfggnimmaemaa
open Go.RowKit

theorem lift_bw {a b c d : Pt} (fa : fitB a = true) (fb : fitB b = true) (fc : fitB c = true) (fd : fitB d = true) : BW (liftZ a b c d) := by
  have hq : ∀ {p : Pt}, fitB p = true → Ab (sqZ d p) 147573952589676412928 := fun {p} hp => by
    have h := dif_ab fd hp
    exact ((h.1.mul h.1).add (h.2.mul h.2)).le (by decide)
  have h1 := (hq fa).mul (cross_b fd fb fc)
  have h2 := (hq fb).mul (cross_b fd fc fa)
  have h3 := (hq fc).mul (cross_b fd fa fb)
  exact ((h1.add h2).add h3).bw (by decide)

set_option maxHeartbeats 4000000 in
set_option maxRecDepth 100000 in
theorem inCircle_l (a b c d : Pt) (w : World) : Calls Try.prog 22 #[.agg #[.int .i64 a.x, .int .i64 a.y], .agg #[.int .i64 b.x, .int .i64 b.y], .agg #[.int .i64 c.x, .int .i64 c.y], .agg #[.int .i64 d.x, .int .i64 d.y]] w (Gives (.int .i64 (circZ a b c d)) w) := by
  obtain ⟨r, hr⟩ : ∃ r, (fitB a && fitB b && fitB c && fitB d) = r := ⟨_, rfl⟩
  have HR := hi hr
  have HZ : Hid (circZ a b c d = if r then sg3 (liftZ a b c d) * sg3 (crossZ a b c) else 0) := by unfold circZ; rw [hr]; exact rfl
  clear hr
  go_enter Try.func22, Try.ntmps22
  go_upto_region 1 with (fail)
  refine wp_abs (fun W => Var W (w.heap.size) [.int .i64 a.x, .int .i64 a.y] ∧ Var W (w.heap.size + 1) [.int .i64 b.x, .int .i64 b.y] ∧ Var W (w.heap.size + 1 + 1) [.int .i64 c.x, .int .i64 c.y] ∧ Var W (w.heap.size + 1 + 1 + 1) [.int .i64 d.x, .int .i64 d.y] ∧ Grew w 4 W) ?_ ?_
  · exact ⟨(var2_new _ _ _ _ _ rfl).below (bl_alloc (bl_alloc (bl_one _ _) _) _), (var2_new _ _ _ _ _ (by simp)).below (bl_alloc (bl_one _ _) _), (var2_new _ _ _ _ _ (by simp)).below (bl_one _ _), var2_new _ _ _ _ _ (by simp), by repeat (first | (with_reducible exact Below.refl _ _) | (with_reducible refine bl_alloc ?_ _) | (with_reducible refine Below.drew ?_) | (with_reducible refine below_drewN' ?_ _) | ((with_reducible refine bl_set ?_ ?_ _); (rotate_left; (dsimp only; omega)))), by simp⟩
  rintro W0 hS0
  have HS0 := hi hS0
  clear hS0
  obtain ⟨c0, c1⟩ := HS0.out.1.two
  obtain ⟨c2, c3⟩ := HS0.out.2.1.two
  obtain ⟨c4, c5⟩ := HS0.out.2.2.1.two
  obtain ⟨c6, c7⟩ := HS0.out.2.2.2.1.two
  go_wp2_with fail
  refine (fits4 _ a b c d _ r HR.out).mono ?_
  rintro e w1 ⟨rfl, hb1⟩
  replace HS0 : Hid ((fun W => Var W (w.heap.size) [.int .i64 a.x, .int .i64 a.y] ∧ Var W (w.heap.size + 1) [.int .i64 b.x, .int .i64 b.y] ∧ Var W (w.heap.size + 1 + 1) [.int .i64 c.x, .int .i64 c.y] ∧ Var W (w.heap.size + 1 + 1 + 1) [.int .i64 d.x, .int .i64 d.y] ∧ Grew w 4 W) w1) := ⟨HS0.out.1.below (bl_trans (bl_one _ _) hb1), HS0.out.2.1.below (bl_trans (bl_one _ _) hb1), HS0.out.2.2.1.below (bl_trans (bl_one _ _) hb1), HS0.out.2.2.2.1.below (bl_trans (bl_one _ _) hb1), HS0.out.2.2.2.2.below (bl_trans (bl_one _ _) hb1)⟩
  clear c0 c1 c2 c3 c4 c5 c6 c7 hb1
  cases r
  case false =>
    go_wp2
    go_ret
    exact ⟨by rw [HZ.out]; rfl, HS0.out.2.2.2.2.hb⟩
  case true =>
  obtain ⟨fa, fb, fc, fd⟩ := and4 HR.out
  have Ra := hi (dif_r fd fa)
  have Rb := hi (dif_r fd fb)
  have Rc := hi (dif_r fd fc)
  have Ba := hi (dif_ab fd fa)
  have Bb := hi (dif_ab fd fb)
  have Bc := hi (dif_ab fd fc)
  have BW1 : Hid (BW (((a.x - d.x) * (a.x - d.x) + (a.y - d.y) * (a.y - d.y)) * ((b.x - d.x) * (c.y - d.y) - (b.y - d.y) * (c.x - d.x)) + ((b.x - d.x) * (b.x - d.x) + (b.y - d.y) * (b.y - d.y)) * ((c.x - d.x) * (a.y - d.y) - (c.y - d.y) * (a.x - d.x)) + ((c.x - d.x) * (c.x - d.x) + (c.y - d.y) * (c.y - d.y)) * ((a.x - d.x) * (b.y - d.y) - (a.y - d.y) * (b.x - d.x)))) := lift_bw fa fb fc fd
  have ho : orientZ a b c = sg3 (crossZ a b c) := by unfold orientZ; rw [fa, fb, fc]; rfl
  have hv := orient_vals a b c
  have CO := hi (fun W => orient_l a b c W)
  rw [ho] at hv CO
  clear fa fb fc fd ho
  generalize hl : liftZ a b c d = l at *
  have HL : Hid (((a.x - d.x) * (a.x - d.x) + (a.y - d.y) * (a.y - d.y)) * ((b.x - d.x) * (c.y - d.y) - (b.y - d.y) * (c.x - d.x)) + ((b.x - d.x) * (b.x - d.x) + (b.y - d.y) * (b.y - d.y)) * ((c.x - d.x) * (a.y - d.y) - (c.y - d.y) * (a.x - d.x)) + ((c.x - d.x) * (c.x - d.x) + (c.y - d.y) * (c.y - d.y)) * ((a.x - d.x) * (b.y - d.y) - (a.y - d.y) * (b.x - d.x)) = l) := hl
  clear hl
  go_upto_region 3 with (fail)
  go_cut [9] (fun x W => x = .int .i64 (sg3 l) ∧ (fun W => Var W (w.heap.size) [.int .i64 a.x, .int .i64 a.y] ∧ Var W (w.heap.size + 1) [.int .i64 b.x, .int .i64 b.y] ∧ Var W (w.heap.size + 1 + 1) [.int .i64 c.x, .int .i64 c.y] ∧ Var W (w.heap.size + 1 + 1 + 1) [.int .i64 d.x, .int .i64 d.y] ∧ Grew w 4 W) W)
  case first =>
    refine wp_region_held_drew (S := fun W => Var W (w.heap.size) [.int .i64 a.x, .int .i64 a.y] ∧ Var W (w.heap.size + 1) [.int .i64 b.x, .int .i64 b.y] ∧ Var W (w.heap.size + 1 + 1) [.int .i64 c.x, .int .i64 c.y] ∧ Var W (w.heap.size + 1 + 1 + 1) [.int .i64 d.x, .int .i64 d.y] ∧ Grew w 4 W) (by kernel_rfl) ?_ (fun q1 => ?_)
    · exact ⟨HS0.out.1.below (bel_drew _), HS0.out.2.1.below (bel_drew _), HS0.out.2.2.1.below (bel_drew _), HS0.out.2.2.2.1.below (bel_drew _), HS0.out.2.2.2.2.below (bel_drew _)⟩
    revert q1
    generalize World.drew _ = W1
    intro q1 
    refine tk (i := 0) (v := ?_) rfl (Or.inl ⟨by rfl, ?_⟩) ?_
    rotate_left
    · intro Wq hSw
      obtain ⟨k0, k1⟩ := (id hSw).2.2.2.1.two
      clear hSw
      go_simp
      all_goals (with_reducible rfl)
    try simp only [Act.put, x2, x4, x5, x6, x7]
    refine tk (i := 1) (v := ?_) rfl (Or.inl ⟨by rfl, ?_⟩) ?_
    rotate_left
    · intro Wq hSw
      obtain ⟨k0, k1⟩ := (id hSw).1.two
      clear hSw
      go_simp
      all_goals (with_reducible rfl)
    try simp only [Act.put, x2, x3, x4, x5, x6, x7]
    refine tk (i := 3) (v := ?_) rfl (Or.inl ⟨by rfl, ?_⟩) ?_
    rotate_left
    · intro Wq hSw
      obtain ⟨k0, k1⟩ := (id hSw).2.2.2.1.two
      clear hSw
      go_simp
      all_goals (with_reducible rfl)
    try simp only [Act.put, x2, x3, x4, x5, x6, x7]
    refine tk (i := 4) (v := ?_) rfl (Or.inl ⟨by rfl, ?_⟩) ?_
    rotate_left
    · intro Wq hSw
      obtain ⟨k0, k1⟩ := (id hSw).2.1.two
      clear hSw
      go_simp
      all_goals (with_reducible rfl)
    try simp only [Act.put, x2, x3, x4, x5, x6, x7]
    refine tk (i := 6) (v := ?_) rfl (Or.inl ⟨by rfl, ?_⟩) ?_
    rotate_left
    · intro Wq hSw
      obtain ⟨k0, k1⟩ := (id hSw).2.2.2.1.two
      clear hSw
      go_simp
      all_goals (with_reducible rfl)
    try simp only [Act.put, x2, x3, x4, x5, x6, x7]
    refine tk (i := 7) (v := ?_) rfl (Or.inl ⟨by rfl, ?_⟩) ?_
    rotate_left
    · intro Wq hSw
      obtain ⟨k0, k1⟩ := (id hSw).2.2.1.two
      clear hSw
      go_simp
      all_goals (with_reducible rfl)
    try simp only [Act.put, x2, x3, x4, x5, x6, x7]
    refine r1 (i := 2) rfl (fun K hK => ?_)
    go_simp
    go_at_call 56
    (with_reducible refine (way_l _ _ _ _ Ra.out.1 Ra.out.2 _).mono ?_); rintro e w1 ⟨rfl, hb1⟩
    go_wp2_with fail
    refine hK.out _ _ ?_ (fun q2 => ?_)
    · exact ⟨(id q1).1.below hb1, (id q1).2.1.below hb1, (id q1).2.2.1.below hb1, (id q1).2.2.2.1.below hb1, (id q1).2.2.2.2.below hb1⟩
    clear hK K q1 hb1
    have q1 := q2
    clear q2
    try simp only [Act.put, x2, x3, x4, x5, x6, x7]
    refine r1 (i := 5) rfl (fun K hK => ?_)
    go_simp
    go_at_call 56
    (with_reducible refine (way_l _ _ _ _ Rb.out.1 Rb.out.2 _).mono ?_); rintro e w1 ⟨rfl, hb1⟩
    go_wp2_with fail
    refine hK.out _ _ ?_ (fun q2 => ?_)
    · exact ⟨(id q1).1.below hb1, (id q1).2.1.below hb1, (id q1).2.2.1.below hb1, (id q1).2.2.2.1.below hb1, (id q1).2.2.2.2.below hb1⟩
    clear hK K q1 hb1
    have q1 := q2
    clear q2
    try simp only [Act.put, x2, x3, x4, x5, x6, x7]
    refine r1 (i := 8) rfl (fun K hK => ?_)
    go_simp
    go_at_call 56
    (with_reducible refine (way_l _ _ _ _ Rc.out.1 Rc.out.2 _).mono ?_); rintro e w1 ⟨rfl, hb1⟩
    go_wp2_with fail
    refine hK.out _ _ ?_ (fun q2 => ?_)
    · exact ⟨(id q1).1.below hb1, (id q1).2.1.below hb1, (id q1).2.2.1.below hb1, (id q1).2.2.2.1.below hb1, (id q1).2.2.2.2.below hb1⟩
    clear hK K q1 hb1
    have q1 := q2
    clear q2
    try simp only [Act.put, x2, x3, x4, x5, x6, x7]
    refine r1 (i := 9) rfl (fun K hK => ?_)
    go_simp
    go_at_call 60
    (with_reducible refine (lifted_l _ _ _ _ _ _ Ba.out.1 Ba.out.2 Bb.out.1 Bb.out.2 Bc.out.1 Bc.out.2 _).mono ?_); rintro e w1 ⟨rfl, hb1⟩
    go_wp2_with fail
    refine hK.out _ _ ?_ (fun q2 => ?_)
    · exact ⟨(id q1).1.below hb1, (id q1).2.1.below hb1, (id q1).2.2.1.below hb1, (id q1).2.2.2.1.below hb1, (id q1).2.2.2.2.below hb1⟩
    clear hK K q1 hb1
    have q1 := q2
    clear q2
    try simp only [Act.put, x2, x3, x4, x5, x6, x7]
    refine r1 (i := 10) rfl (fun K hK => ?_)
    go_simp
    go_at_call 59
    (with_reducible refine (signQ _ BW1.out _).mono ?_); rintro e w1 ⟨rfl, hb1⟩
    go_wp2_with fail
    refine hK.out _ _ ?_ (fun q2 => ?_)
    · exact ⟨(id q1).1.below hb1, (id q1).2.1.below hb1, (id q1).2.2.1.below hb1, (id q1).2.2.2.1.below hb1, (id q1).2.2.2.2.below hb1⟩
    clear hK K q1 hb1
    have q1 := q2
    clear q2
    try simp only [Act.put, x2, x3, x4, x5, x6, x7]
    refine tk (i := 11) (v := ?_) rfl (Or.inl ⟨by rfl, ?_⟩) ?_
    rotate_left
    · intro Wq hSw
      clear hSw
      go_simp
      all_goals (with_reducible rfl)
    try simp only [Act.put, x2, x3, x4, x5, x6, x7]
    refine wpAnyH_done (by kernel_rfl) ?_ _
    go_wp2_with fail
    go_meet
    case rel => exact ⟨by rw [HL.out], id q1⟩
  case rest =>
  obtain ⟨rfl, hS0⟩ := hcut
  replace HS0 := hi hS0
  clear hS0
  obtain ⟨c0, c1⟩ := HS0.out.1.two
  obtain ⟨c2, c3⟩ := HS0.out.2.1.two
  obtain ⟨c4, c5⟩ := HS0.out.2.2.1.two
  obtain ⟨c6, c7⟩ := HS0.out.2.2.2.1.two
  have hs : sg3 l = -1 ∨ sg3 l = 0 ∨ sg3 l = 1 := by rcases sg3_vals l with ⟨-, e⟩ | ⟨-, e⟩ | ⟨-, e⟩ <;> omega
  clear HL BW1
  generalize sg3 l = s at *
  generalize sg3 (crossZ a b c) = t at *
  go_wp2_with fail
  (with_reducible refine (CO.out _).mono ?_); rintro e w1 ⟨rfl, hb1⟩
  have HG := hi (HS0.out.2.2.2.2.below hb1)
  clear c0 c1 c2 c3 c4 c5 c6 c7 hb1 HS0
  have n1 : IntKind.i64.wrap (-s) = -s := IntWalk.i64_in _ (by omega)
  have n2 : wrap64 (-s) = -s := by unfold wrap64; omega
  rcases hv with rfl | rfl | rfl
  all_goals
    go_wp2
    go_ret
    exact ⟨by rw [HZ.out]; first | rfl | simp, HG.out.hb⟩
end Go.Proofs.Ytojfggnimmaemaa
