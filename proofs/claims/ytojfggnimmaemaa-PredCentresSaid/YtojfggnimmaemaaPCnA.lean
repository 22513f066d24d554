/-
  Contract of law 3's half.
-/
import Derived.Test.YtojfggnimmaemaaAreas
import Derived.Test.YtojfggnimmaemaaGeoAll
import Derived.Test.YtojfggnimmaemaaKnown3
namespace Go.Proofs.Ytojfggnimmaemaa
open Go.RowKit

theorem dec2h (p : Prop) [Decidable p] : decide p = true ∨ decide p = false := by cases decide p <;> simp
def halfB (n t b : Int) : Bool := decide (2 * n * b + -b ≤ t) && decide (t < 2 * n * b + b)
theorem dec_le (a b : Int) : decide (sg3 (a - b) ≤ 0) = decide (a ≤ b) := by
  apply decide_eq_decide.2
  rcases sg3_vals (a - b) with ⟨h, e⟩ | ⟨h, e⟩ | ⟨h, e⟩ <;> rw [e] <;> omega
theorem dec_lt (a b : Int) : decide (sg3 (a - b) < 0) = decide (a < b) := by
  apply decide_eq_decide.2
  rcases sg3_vals (a - b) with ⟨h, e⟩ | ⟨h, e⟩ | ⟨h, e⟩ <;> rw [e] <;> omega

set_option maxHeartbeats 8000000 in
set_option maxRecDepth 100000 in
theorem half_l (x : Int) (hx : R64 x) (u0 u1 : Value) (zt zb : Int) (ht : Ab zt 1606938044258990275541962092341162602522202993782792835301376) (hb : Ab zb 147573952589676412928) (w : World) (h0 : NumIs u0 zt w) (h1 : NumIs u1 zb w) :
    Calls Try.prog 41 #[.int .i64 x, u0, u1] w (Gives (.bool (halfB x zt zb)) w) := by
  obtain ⟨m4, ad4, n4, c4, rfl⟩ := h0.shape
  have HI0 := hi h0
  clear h0
  obtain ⟨m5, ad5, n5, c5, rfl⟩ := h1.shape
  have HI1 := hi h1
  clear h1
  have RX : Hid (-9223372036854775808 ≤ x ∧ x ≤ 9223372036854775807) := hx
  have hxa : Ab x 9223372036854775808 := by have := hx; unfold R64 at this; unfold Ab; omega
  have h2 : Ab 2 2 := by unfold Ab; omega
  have Bx := hi (hxa.big (by decide))
  have B2 := hi (h2.big (by decide))
  have Bb := hi (hb.big (by decide))
  have Bt := hi (ht.big (by decide))
  have B2x := hi ((h2.mul hxa).big (by decide))
  have hp := (h2.mul hxa).mul hb
  have Bp := hi (hp.big (by decide))
  have hnb : Ab (-zb) 147573952589676412928 := by unfold Ab at *; omega
  have Bnb := hi (hnb.big (by decide))
  have Bl := hi ((hp.add hnb).big (by decide))
  have Bh := hi ((hp.add hb).big (by decide))
  have D1 := hi (dec_le (2 * x * zb + -zb) zt)
  have D2 := hi (dec_lt zt (2 * x * zb + zb))
  have HP : Hid (halfB x zt zb = (decide (2 * x * zb + -zb ≤ zt) && decide (zt < 2 * x * zb + zb))) := rfl
  clear hx hxa h2 hp hnb ht hb
  go_enter Try.func41, Try.ntmps41
  go_upto_region 1 with (fail)
  refine wp_abs (fun W => Var W (w.heap.size) [.bool m4, .slice ad4 n4 c4] ∧ Var W (w.heap.size + 1) [.bool m5, .slice ad5 n5 c5] ∧ Grew w 2 W) ?_ ?_
  · exact ⟨(var2_new _ _ _ _ _ rfl).below (bl_one _ _), var2_new _ _ _ _ _ (by simp), by repeat (first | (with_reducible exact Below.refl _ _) | (with_reducible refine bl_alloc ?_ _) | (with_reducible refine Below.drew ?_) | (with_reducible refine below_drewN' ?_ _) | ((with_reducible refine bl_set ?_ ?_ _); (rotate_left; (dsimp only; omega)))), by simp⟩
  rintro W0 ⟨v4, v5, hG⟩
  have HS0 : Hid ((fun W => Var W (w.heap.size) [.bool m4, .slice ad4 n4 c4] ∧ Var W (w.heap.size + 1) [.bool m5, .slice ad5 n5 c5] ∧ NumIs (.agg #[.bool m4, .slice ad4 n4 c4]) (zt) W ∧ NumIs (.agg #[.bool m5, .slice ad5 n5 c5]) (zb) W ∧ Grew w 2 W) W0) := ⟨v4, v5, HI0.out.below hG.hb, HI1.out.below hG.hb, hG⟩
  clear v4 v5 hG HI0 HI1
  go_upto_region 1 with (fail)
  go_cut [7] (fun pv W => ∃ g7 : Nat, ∃ (m7 : Bool) (ad7 : Option Addr) (n7 c7 : Nat), pv = .pointer (some ⟨g7, 0, none⟩) ∧ (w.heap.size + 2 ≤ g7) ∧ Var W (g7) [.bool m7, .slice ad7 n7 c7] ∧ NumIs (.agg #[.bool m7, .slice ad7 n7 c7]) (x) W ∧ (fun W => Var W (w.heap.size) [.bool m4, .slice ad4 n4 c4] ∧ Var W (w.heap.size + 1) [.bool m5, .slice ad5 n5 c5] ∧ NumIs (.agg #[.bool m4, .slice ad4 n4 c4]) (zt) W ∧ NumIs (.agg #[.bool m5, .slice ad5 n5 c5]) (zb) W ∧ Grew w 2 W) W)
  case first =>
    clear HP D1 D2
    obtain ⟨c0_, d0_⟩ := HS0.out.1.two
    obtain ⟨c1_, d1_⟩ := HS0.out.2.1.two
    go_wp2_with fail
    (with_reducible refine (small_num x RX.out.1 RX.out.2 _).mono ?_); rintro e w1 ⟨v, rfl, hN, hb1⟩
    obtain ⟨m, ad, n, c, rfl⟩ := hN.shape
    have HN := hi hN
    clear hN
    try dsimp only
    go_wp2_with fail
    go_meet
    case rel => exact ⟨_, _, _, _, _, rfl, (HS0.out.2.2.2.2.below hb1).sz, var2_new _ _ _ _ _ rfl, HN.out.below (bl_one _ _), ⟨HS0.out.1.below (bl_trans hb1 (bl_one _ _)), HS0.out.2.1.below (bl_trans hb1 (bl_one _ _)), HS0.out.2.2.1.below (bl_trans hb1 (bl_one _ _)), HS0.out.2.2.2.1.below (bl_trans hb1 (bl_one _ _)), HS0.out.2.2.2.2.below (bl_trans hb1 (bl_one _ _))⟩⟩
  case rest =>
  obtain ⟨g7, m7, ad7, n7, c7, rfl, ge7, vn, hN, hS0⟩ := hcut
  clear HS0
  have HS0 : Hid ((fun W => Var W (w.heap.size) [.bool m4, .slice ad4 n4 c4] ∧ Var W (w.heap.size + 1) [.bool m5, .slice ad5 n5 c5] ∧ Var W (g7) [.bool m7, .slice ad7 n7 c7] ∧ NumIs (.agg #[.bool m4, .slice ad4 n4 c4]) (zt) W ∧ NumIs (.agg #[.bool m5, .slice ad5 n5 c5]) (zb) W ∧ NumIs (.agg #[.bool m7, .slice ad7 n7 c7]) (x) W ∧ Grew w 2 W) _) := ⟨hS0.1, hS0.2.1, vn, hS0.2.2.1, hS0.2.2.2.1, hN, hS0.2.2.2.2⟩
  clear hS0 vn hN
  go_upto_region 2 with (fail)
  go_cut [8] (fun pv W => ∃ g8 : Nat, ∃ (m8 : Bool) (ad8 : Option Addr) (n8 c8 : Nat), pv = .pointer (some ⟨g8, 0, none⟩) ∧ (w.heap.size + 2 ≤ g8) ∧ Var W (g8) [.bool m8, .slice ad8 n8 c8] ∧ NumIs (.agg #[.bool m8, .slice ad8 n8 c8]) (2) W ∧ (fun W => Var W (w.heap.size) [.bool m4, .slice ad4 n4 c4] ∧ Var W (w.heap.size + 1) [.bool m5, .slice ad5 n5 c5] ∧ Var W (g7) [.bool m7, .slice ad7 n7 c7] ∧ NumIs (.agg #[.bool m4, .slice ad4 n4 c4]) (zt) W ∧ NumIs (.agg #[.bool m5, .slice ad5 n5 c5]) (zb) W ∧ NumIs (.agg #[.bool m7, .slice ad7 n7 c7]) (x) W ∧ Grew w 2 W) W)
  case first =>
    clear HP D1 D2
    obtain ⟨c0_, d0_⟩ := HS0.out.1.two
    obtain ⟨c1_, d1_⟩ := HS0.out.2.1.two
    obtain ⟨c2_, d2_⟩ := HS0.out.2.2.1.two
    go_wp2_with fail
    (with_reducible refine (small_num 2 (by decide) (by decide) _).mono ?_); rintro e w1 ⟨v, rfl, hN, hb1⟩
    obtain ⟨m, ad, n, c, rfl⟩ := hN.shape
    have HN := hi hN
    clear hN
    try dsimp only
    go_wp2_with fail
    go_meet
    case rel => exact ⟨_, _, _, _, _, rfl, (HS0.out.2.2.2.2.2.2.below hb1).sz, var2_new _ _ _ _ _ rfl, HN.out.below (bl_one _ _), ⟨HS0.out.1.below (bl_trans hb1 (bl_one _ _)), HS0.out.2.1.below (bl_trans hb1 (bl_one _ _)), HS0.out.2.2.1.below (bl_trans hb1 (bl_one _ _)), HS0.out.2.2.2.1.below (bl_trans hb1 (bl_one _ _)), HS0.out.2.2.2.2.1.below (bl_trans hb1 (bl_one _ _)), HS0.out.2.2.2.2.2.1.below (bl_trans hb1 (bl_one _ _)), HS0.out.2.2.2.2.2.2.below (bl_trans hb1 (bl_one _ _))⟩⟩
  case rest =>
  obtain ⟨g8, m8, ad8, n8, c8, rfl, ge8, vn, hN, hS0⟩ := hcut
  clear HS0
  have HS0 : Hid ((fun W => Var W (w.heap.size) [.bool m4, .slice ad4 n4 c4] ∧ Var W (w.heap.size + 1) [.bool m5, .slice ad5 n5 c5] ∧ Var W (g7) [.bool m7, .slice ad7 n7 c7] ∧ Var W (g8) [.bool m8, .slice ad8 n8 c8] ∧ NumIs (.agg #[.bool m4, .slice ad4 n4 c4]) (zt) W ∧ NumIs (.agg #[.bool m5, .slice ad5 n5 c5]) (zb) W ∧ NumIs (.agg #[.bool m7, .slice ad7 n7 c7]) (x) W ∧ NumIs (.agg #[.bool m8, .slice ad8 n8 c8]) (2) W ∧ Grew w 2 W) _) := ⟨hS0.1, hS0.2.1, hS0.2.2.1, vn, hS0.2.2.2.1, hS0.2.2.2.2.1, hS0.2.2.2.2.2.1, hN, hS0.2.2.2.2.2.2⟩
  clear hS0 vn hN
  go_upto_region 3 with (fail)
  go_cut [9] (fun pv W => ∃ g9 : Nat, ∃ (m9 : Bool) (ad9 : Option Addr) (n9 c9 : Nat), pv = .pointer (some ⟨g9, 0, none⟩) ∧ (w.heap.size + 2 ≤ g9) ∧ Var W (g9) [.bool m9, .slice ad9 n9 c9] ∧ NumIs (.agg #[.bool m9, .slice ad9 n9 c9]) (2 * x * zb + -zb) W ∧ (fun W => Var W (w.heap.size) [.bool m4, .slice ad4 n4 c4] ∧ Var W (w.heap.size + 1) [.bool m5, .slice ad5 n5 c5] ∧ Var W (g7) [.bool m7, .slice ad7 n7 c7] ∧ Var W (g8) [.bool m8, .slice ad8 n8 c8] ∧ NumIs (.agg #[.bool m4, .slice ad4 n4 c4]) (zt) W ∧ NumIs (.agg #[.bool m5, .slice ad5 n5 c5]) (zb) W ∧ NumIs (.agg #[.bool m7, .slice ad7 n7 c7]) (x) W ∧ NumIs (.agg #[.bool m8, .slice ad8 n8 c8]) (2) W ∧ Grew w 2 W) W)
  case first =>
    clear HP D1 D2
    refine wp_region_bel (by kernel_rfl) (fun q1 => ?_)
    revert q1
    generalize World.drew _ = W1
    intro q1
    refine tk (i := 0) (v := ?_) rfl (Or.inl ⟨by rfl, ?_⟩) ?_
    rotate_left
    · intro Wq hSw
      obtain ⟨k0, k1⟩ := (HS0.out.2.2.2.1.below hSw).two
      clear hSw
      go_simp
      all_goals (with_reducible rfl)
    try simp only [Act.put, x2, x4, x5, x6, x7]
    refine tk (i := 1) (v := ?_) rfl (Or.inl ⟨by rfl, ?_⟩) ?_
    rotate_left
    · intro Wq hSw
      obtain ⟨k0, k1⟩ := (HS0.out.2.2.1.below hSw).two
      clear hSw
      go_simp
      all_goals (with_reducible rfl)
    try simp only [Act.put, x2, x3, x4, x5, x6, x7]
    refine tk (i := 3) (v := ?_) rfl (Or.inl ⟨by rfl, ?_⟩) ?_
    rotate_left
    · intro Wq hSw
      obtain ⟨k0, k1⟩ := (HS0.out.2.1.below hSw).two
      clear hSw
      go_simp
      all_goals (with_reducible rfl)
    try simp only [Act.put, x2, x3, x4, x5, x6, x7]
    refine tk (i := 5) (v := ?_) rfl (Or.inl ⟨by rfl, ?_⟩) ?_
    rotate_left
    · intro Wq hSw
      obtain ⟨k0, k1⟩ := (HS0.out.2.1.below hSw).two
      clear hSw
      go_simp
      all_goals (with_reducible rfl)
    try simp only [Act.put, x2, x3, x4, x5, x6, x7]
    refine r2 (i := 2) (j := 8) rfl (fun K hK => ?_) rfl (fun K hK => ?_)
    · go_simp
      go_at_call 36
      (with_reducible refine (times_num _ _ 2 x _ (HS0.out.2.2.2.2.2.2.2.1.below q1) (HS0.out.2.2.2.2.2.2.1.below q1) B2.out Bx.out).mono ?_); rintro e w1 ⟨va, rfl, hNa, hb1⟩
      obtain ⟨ma, ada, na, ca, rfl⟩ := hNa.shape
      have HNa := hi hNa
      clear hNa
      go_wp2_with fail
      refine hK.out _ _ (bl_trans q1 hb1) (fun q2 => ?_)
      clear hK K q1 hb1
      have q1 := q2
      clear q2
      try simp only [Act.put, x2, x3, x4, x5, x6, x7]
      refine r2 (i := 4) (j := 8) rfl (fun K hK => ?_) rfl (fun K hK => ?_)
      · go_simp
        go_at_call 36
        (with_reducible refine (times_num _ _ (2 * x) zb _ HNa.out (HS0.out.2.2.2.2.2.1.below q1) B2x.out Bb.out).mono ?_); rintro e w1 ⟨vb, rfl, hNb, hb1⟩
        obtain ⟨mb, adb, nb, cb, rfl⟩ := hNb.shape
        have HNb := hi hNb
        clear hNb
        go_wp2_with fail
        refine hK.out _ _ (bl_trans q1 hb1) (fun q2 => ?_)
        replace HNa := hi (HNa.out.below hb1)
        clear hK K q1 hb1
        have q1 := q2
        clear q2
        try simp only [Act.put, x2, x3, x4, x5, x6, x7]
        refine r2 (i := 6) (j := 8) rfl (fun K hK => ?_) rfl (fun K hK => ?_)
        · go_simp
          go_at_call 39
          (with_reducible refine (neg_num _ zb _ (HS0.out.2.2.2.2.2.1.below q1)).mono ?_); rintro e w1 ⟨vc, rfl, hNc, hb1⟩
          obtain ⟨mc, adc, nc, cc, rfl⟩ := hNc.shape
          have HNc := hi hNc
          clear hNc
          go_wp2_with fail
          refine hK.out _ _ (bl_trans q1 hb1) (fun q2 => ?_)
          replace HNa := hi (HNa.out.below hb1)
          replace HNb := hi (HNb.out.below hb1)
          clear hK K q1 hb1
          have q1 := q2
          clear q2
          try simp only [Act.put, x2, x3, x4, x5, x6, x7]
          refine r2 (i := 7) (j := 8) rfl (fun K hK => ?_) rfl (fun K hK => ?_)
          · go_simp
            go_at_call 38
            (with_reducible refine (plus_c _ _ (2 * x * zb) (-zb) _ HNb.out HNc.out Bp.out Bnb.out).mono ?_); rintro e w1 ⟨vd, rfl, hNd, hb1⟩
            obtain ⟨md, add, nd, cd, rfl⟩ := hNd.shape
            have HNd := hi hNd
            clear hNd
            go_wp2_with fail
            refine hK.out _ _ (bl_trans q1 hb1) (fun q2 => ?_)
            replace HNa := hi (HNa.out.below hb1)
            replace HNb := hi (HNb.out.below hb1)
            replace HNc := hi (HNc.out.below hb1)
            clear hK K q1 hb1
            have q1 := q2
            clear q2
            try simp only [Act.put, x2, x3, x4, x5, x6, x7]
            refine r1 (i := 8) rfl (fun K hK => ?_)
            go_simp
            refine hK.out _ _ (bel_one q1 _) (fun q2 => ?_)
            replace HNa := hi (HNa.out.below (bel_al q2 (bl_one _ _)))
            replace HNb := hi (HNb.out.below (bel_al q2 (bl_one _ _)))
            replace HNc := hi (HNc.out.below (bel_al q2 (bl_one _ _)))
            replace HNd := hi (HNd.out.below (bel_al q2 (bl_one _ _)))
            have hgeHX := q1.size
            have HX := hi (bel_var2 q1 (.bool false) (.slice none 0 0) 42)
            clear hK K q1
            have q1 := q2
            clear q2
            try simp only [Act.put, x2, x3, x4, x5, x6, x7]
            revert HNa
            revert HNb
            revert HNc
            revert HNd
            revert HX
            revert q1
            generalize World.alloc _ _ = W2
            intro q1 HX HNd HNc HNb HNa
            refine r1 (i := 9) rfl (fun K hK => ?_)
            obtain ⟨k0, k1⟩ := HX.out.two
            obtain ⟨f0, f1⟩ := HX.out.free2
            go_simp
            refine hK.out _ _ (bel_set2 q1 hgeHX hgeHX _ _) (fun q2 => ?_)
            replace HNa := hi (HNa.out.res HX.out (md) (.slice add nd cd))
            replace HNb := hi (HNb.out.res HX.out (md) (.slice add nd cd))
            replace HNc := hi (HNc.out.res HX.out (md) (.slice add nd cd))
            replace HNd := hi (HNd.out.res HX.out (md) (.slice add nd cd))
            replace HX := hi (HX.out.set2 (.bool md) (.slice add nd cd))
            clear hK K q1 k0 k1 f0 f1
            have q1 := q2
            clear q2
            try simp only [x5, x6, x7]
            refine wpAnyH_done (by kernel_rfl) ?_ _
            go_wp2_with fail
            go_meet
            case rel => exact ⟨_, _, _, _, _, rfl, Nat.le_trans (by have := HS0.out.2.2.2.2.2.2.2.2.sz; exact this) hgeHX, HX.out, HNd.out, ⟨HS0.out.1.below q1, HS0.out.2.1.below q1, HS0.out.2.2.1.below q1, HS0.out.2.2.2.1.below q1, HS0.out.2.2.2.2.1.below q1, HS0.out.2.2.2.2.2.1.below q1, HS0.out.2.2.2.2.2.2.1.below q1, HS0.out.2.2.2.2.2.2.2.1.below q1, HS0.out.2.2.2.2.2.2.2.2.below q1⟩⟩
          · go_simp
            refine hK.out _ _ (bel_one q1 _) (fun q2 => ?_)
            replace HNa := hi (HNa.out.below (bel_al q2 (bl_one _ _)))
            replace HNb := hi (HNb.out.below (bel_al q2 (bl_one _ _)))
            replace HNc := hi (HNc.out.below (bel_al q2 (bl_one _ _)))
            have hgeHX := q1.size
            have HX := hi (bel_var2 q1 (.bool false) (.slice none 0 0) 42)
            clear hK K q1
            have q1 := q2
            clear q2
            try simp only [Act.put, x2, x3, x4, x5, x6, x7]
            revert HNa
            revert HNb
            revert HNc
            revert HX
            revert q1
            generalize World.alloc _ _ = W2
            intro q1 HX HNc HNb HNa
            refine r1 (i := 7) rfl (fun K hK => ?_)
            go_simp
            go_at_call 38
            (with_reducible refine (plus_c _ _ (2 * x * zb) (-zb) _ HNb.out HNc.out Bp.out Bnb.out).mono ?_); rintro e w1 ⟨vd, rfl, hNd, hb1⟩
            obtain ⟨md, add, nd, cd, rfl⟩ := hNd.shape
            have HNd := hi hNd
            clear hNd
            go_wp2_with fail
            refine hK.out _ _ (bl_trans q1 hb1) (fun q2 => ?_)
            replace HNa := hi (HNa.out.below hb1)
            replace HNb := hi (HNb.out.below hb1)
            replace HNc := hi (HNc.out.below hb1)
            replace HX := hi (HX.out.below hb1)
            clear hK K q1 hb1
            have q1 := q2
            clear q2
            try simp only [Act.put, x2, x3, x4, x5, x6, x7]
            refine r1 (i := 9) rfl (fun K hK => ?_)
            obtain ⟨k0, k1⟩ := HX.out.two
            obtain ⟨f0, f1⟩ := HX.out.free2
            go_simp
            refine hK.out _ _ (bel_set2 q1 hgeHX hgeHX _ _) (fun q2 => ?_)
            replace HNa := hi (HNa.out.res HX.out (md) (.slice add nd cd))
            replace HNb := hi (HNb.out.res HX.out (md) (.slice add nd cd))
            replace HNc := hi (HNc.out.res HX.out (md) (.slice add nd cd))
            replace HNd := hi (HNd.out.res HX.out (md) (.slice add nd cd))
            replace HX := hi (HX.out.set2 (.bool md) (.slice add nd cd))
            clear hK K q1 k0 k1 f0 f1
            have q1 := q2
            clear q2
            try simp only [x5, x6, x7]
            refine wpAnyH_done (by kernel_rfl) ?_ _
            go_wp2_with fail
            go_meet
            case rel => exact ⟨_, _, _, _, _, rfl, Nat.le_trans (by have := HS0.out.2.2.2.2.2.2.2.2.sz; exact this) hgeHX, HX.out, HNd.out, ⟨HS0.out.1.below q1, HS0.out.2.1.below q1, HS0.out.2.2.1.below q1, HS0.out.2.2.2.1.below q1, HS0.out.2.2.2.2.1.below q1, HS0.out.2.2.2.2.2.1.below q1, HS0.out.2.2.2.2.2.2.1.below q1, HS0.out.2.2.2.2.2.2.2.1.below q1, HS0.out.2.2.2.2.2.2.2.2.below q1⟩⟩
        · go_simp
          refine hK.out _ _ (bel_one q1 _) (fun q2 => ?_)
          replace HNa := hi (HNa.out.below (bel_al q2 (bl_one _ _)))
          replace HNb := hi (HNb.out.below (bel_al q2 (bl_one _ _)))
          have hgeHX := q1.size
          have HX := hi (bel_var2 q1 (.bool false) (.slice none 0 0) 42)
          clear hK K q1
          have q1 := q2
          clear q2
          try simp only [Act.put, x2, x3, x4, x5, x6, x7]
          revert HNa
          revert HNb
          revert HX
          revert q1
          generalize World.alloc _ _ = W2
          intro q1 HX HNb HNa
          refine r1 (i := 6) rfl (fun K hK => ?_)
          go_simp
          go_at_call 39
          (with_reducible refine (neg_num _ zb _ (HS0.out.2.2.2.2.2.1.below q1)).mono ?_); rintro e w1 ⟨vc, rfl, hNc, hb1⟩
          obtain ⟨mc, adc, nc, cc, rfl⟩ := hNc.shape
          have HNc := hi hNc
          clear hNc
          go_wp2_with fail
          refine hK.out _ _ (bl_trans q1 hb1) (fun q2 => ?_)
          replace HNa := hi (HNa.out.below hb1)
          replace HNb := hi (HNb.out.below hb1)
          replace HX := hi (HX.out.below hb1)
          clear hK K q1 hb1
          have q1 := q2
          clear q2
          try simp only [Act.put, x2, x3, x4, x5, x6, x7]
          refine r1 (i := 7) rfl (fun K hK => ?_)
          go_simp
          go_at_call 38
          (with_reducible refine (plus_c _ _ (2 * x * zb) (-zb) _ HNb.out HNc.out Bp.out Bnb.out).mono ?_); rintro e w1 ⟨vd, rfl, hNd, hb1⟩
          obtain ⟨md, add, nd, cd, rfl⟩ := hNd.shape
          have HNd := hi hNd
          clear hNd
          go_wp2_with fail
          refine hK.out _ _ (bl_trans q1 hb1) (fun q2 => ?_)
          replace HNa := hi (HNa.out.below hb1)
          replace HNb := hi (HNb.out.below hb1)
          replace HX := hi (HX.out.below hb1)
          replace HNc := hi (HNc.out.below hb1)
          clear hK K q1 hb1
          have q1 := q2
          clear q2
          try simp only [Act.put, x2, x3, x4, x5, x6, x7]
          refine r1 (i := 9) rfl (fun K hK => ?_)
          obtain ⟨k0, k1⟩ := HX.out.two
          obtain ⟨f0, f1⟩ := HX.out.free2
          go_simp
          refine hK.out _ _ (bel_set2 q1 hgeHX hgeHX _ _) (fun q2 => ?_)
          replace HNa := hi (HNa.out.res HX.out (md) (.slice add nd cd))
          replace HNb := hi (HNb.out.res HX.out (md) (.slice add nd cd))
          replace HNc := hi (HNc.out.res HX.out (md) (.slice add nd cd))
          replace HNd := hi (HNd.out.res HX.out (md) (.slice add nd cd))
          replace HX := hi (HX.out.set2 (.bool md) (.slice add nd cd))
          clear hK K q1 k0 k1 f0 f1
          have q1 := q2
          clear q2
          try simp only [x5, x6, x7]
          refine wpAnyH_done (by kernel_rfl) ?_ _
          go_wp2_with fail
          go_meet
          case rel => exact ⟨_, _, _, _, _, rfl, Nat.le_trans (by have := HS0.out.2.2.2.2.2.2.2.2.sz; exact this) hgeHX, HX.out, HNd.out, ⟨HS0.out.1.below q1, HS0.out.2.1.below q1, HS0.out.2.2.1.below q1, HS0.out.2.2.2.1.below q1, HS0.out.2.2.2.2.1.below q1, HS0.out.2.2.2.2.2.1.below q1, HS0.out.2.2.2.2.2.2.1.below q1, HS0.out.2.2.2.2.2.2.2.1.below q1, HS0.out.2.2.2.2.2.2.2.2.below q1⟩⟩
      · go_simp
        refine hK.out _ _ (bel_one q1 _) (fun q2 => ?_)
        replace HNa := hi (HNa.out.below (bel_al q2 (bl_one _ _)))
        have hgeHX := q1.size
        have HX := hi (bel_var2 q1 (.bool false) (.slice none 0 0) 42)
        clear hK K q1
        have q1 := q2
        clear q2
        try simp only [Act.put, x2, x3, x4, x5, x6, x7]
        revert HNa
        revert HX
        revert q1
        generalize World.alloc _ _ = W2
        intro q1 HX HNa
        refine r1 (i := 4) rfl (fun K hK => ?_)
        go_simp
        go_at_call 36
        (with_reducible refine (times_num _ _ (2 * x) zb _ HNa.out (HS0.out.2.2.2.2.2.1.below q1) B2x.out Bb.out).mono ?_); rintro e w1 ⟨vb, rfl, hNb, hb1⟩
        obtain ⟨mb, adb, nb, cb, rfl⟩ := hNb.shape
        have HNb := hi hNb
        clear hNb
        go_wp2_with fail
        refine hK.out _ _ (bl_trans q1 hb1) (fun q2 => ?_)
        replace HNa := hi (HNa.out.below hb1)
        replace HX := hi (HX.out.below hb1)
        clear hK K q1 hb1
        have q1 := q2
        clear q2
        try simp only [Act.put, x2, x3, x4, x5, x6, x7]
        refine r1 (i := 6) rfl (fun K hK => ?_)
        go_simp
        go_at_call 39
        (with_reducible refine (neg_num _ zb _ (HS0.out.2.2.2.2.2.1.below q1)).mono ?_); rintro e w1 ⟨vc, rfl, hNc, hb1⟩
        obtain ⟨mc, adc, nc, cc, rfl⟩ := hNc.shape
        have HNc := hi hNc
        clear hNc
        go_wp2_with fail
        refine hK.out _ _ (bl_trans q1 hb1) (fun q2 => ?_)
        replace HNa := hi (HNa.out.below hb1)
        replace HX := hi (HX.out.below hb1)
        replace HNb := hi (HNb.out.below hb1)
        clear hK K q1 hb1
        have q1 := q2
        clear q2
        try simp only [Act.put, x2, x3, x4, x5, x6, x7]
        refine r1 (i := 7) rfl (fun K hK => ?_)
        go_simp
        go_at_call 38
        (with_reducible refine (plus_c _ _ (2 * x * zb) (-zb) _ HNb.out HNc.out Bp.out Bnb.out).mono ?_); rintro e w1 ⟨vd, rfl, hNd, hb1⟩
        obtain ⟨md, add, nd, cd, rfl⟩ := hNd.shape
        have HNd := hi hNd
        clear hNd
        go_wp2_with fail
        refine hK.out _ _ (bl_trans q1 hb1) (fun q2 => ?_)
        replace HNa := hi (HNa.out.below hb1)
        replace HX := hi (HX.out.below hb1)
        replace HNb := hi (HNb.out.below hb1)
        replace HNc := hi (HNc.out.below hb1)
        clear hK K q1 hb1
        have q1 := q2
        clear q2
        try simp only [Act.put, x2, x3, x4, x5, x6, x7]
        refine r1 (i := 9) rfl (fun K hK => ?_)
        obtain ⟨k0, k1⟩ := HX.out.two
        obtain ⟨f0, f1⟩ := HX.out.free2
        go_simp
        refine hK.out _ _ (bel_set2 q1 hgeHX hgeHX _ _) (fun q2 => ?_)
        replace HNa := hi (HNa.out.res HX.out (md) (.slice add nd cd))
        replace HNb := hi (HNb.out.res HX.out (md) (.slice add nd cd))
        replace HNc := hi (HNc.out.res HX.out (md) (.slice add nd cd))
        replace HNd := hi (HNd.out.res HX.out (md) (.slice add nd cd))
        replace HX := hi (HX.out.set2 (.bool md) (.slice add nd cd))
        clear hK K q1 k0 k1 f0 f1
        have q1 := q2
        clear q2
        try simp only [x5, x6, x7]
        refine wpAnyH_done (by kernel_rfl) ?_ _
        go_wp2_with fail
        go_meet
        case rel => exact ⟨_, _, _, _, _, rfl, Nat.le_trans (by have := HS0.out.2.2.2.2.2.2.2.2.sz; exact this) hgeHX, HX.out, HNd.out, ⟨HS0.out.1.below q1, HS0.out.2.1.below q1, HS0.out.2.2.1.below q1, HS0.out.2.2.2.1.below q1, HS0.out.2.2.2.2.1.below q1, HS0.out.2.2.2.2.2.1.below q1, HS0.out.2.2.2.2.2.2.1.below q1, HS0.out.2.2.2.2.2.2.2.1.below q1, HS0.out.2.2.2.2.2.2.2.2.below q1⟩⟩
    · go_simp
      refine hK.out _ _ (bel_one q1 _) (fun q2 => ?_)
      have hgeHX := q1.size
      have HX := hi (bel_var2 q1 (.bool false) (.slice none 0 0) 42)
      clear hK K q1
      have q1 := q2
      clear q2
      try simp only [Act.put, x2, x3, x4, x5, x6, x7]
      revert HX
      revert q1
      generalize World.alloc _ _ = W2
      intro q1 HX
      refine r1 (i := 2) rfl (fun K hK => ?_)
      go_simp
      go_at_call 36
      (with_reducible refine (times_num _ _ 2 x _ (HS0.out.2.2.2.2.2.2.2.1.below q1) (HS0.out.2.2.2.2.2.2.1.below q1) B2.out Bx.out).mono ?_); rintro e w1 ⟨va, rfl, hNa, hb1⟩
      obtain ⟨ma, ada, na, ca, rfl⟩ := hNa.shape
      have HNa := hi hNa
      clear hNa
      go_wp2_with fail
      refine hK.out _ _ (bl_trans q1 hb1) (fun q2 => ?_)
      replace HX := hi (HX.out.below hb1)
      clear hK K q1 hb1
      have q1 := q2
      clear q2
      try simp only [Act.put, x2, x3, x4, x5, x6, x7]
      refine r1 (i := 4) rfl (fun K hK => ?_)
      go_simp
      go_at_call 36
      (with_reducible refine (times_num _ _ (2 * x) zb _ HNa.out (HS0.out.2.2.2.2.2.1.below q1) B2x.out Bb.out).mono ?_); rintro e w1 ⟨vb, rfl, hNb, hb1⟩
      obtain ⟨mb, adb, nb, cb, rfl⟩ := hNb.shape
      have HNb := hi hNb
      clear hNb
      go_wp2_with fail
      refine hK.out _ _ (bl_trans q1 hb1) (fun q2 => ?_)
      replace HX := hi (HX.out.below hb1)
      replace HNa := hi (HNa.out.below hb1)
      clear hK K q1 hb1
      have q1 := q2
      clear q2
      try simp only [Act.put, x2, x3, x4, x5, x6, x7]
      refine r1 (i := 6) rfl (fun K hK => ?_)
      go_simp
      go_at_call 39
      (with_reducible refine (neg_num _ zb _ (HS0.out.2.2.2.2.2.1.below q1)).mono ?_); rintro e w1 ⟨vc, rfl, hNc, hb1⟩
      obtain ⟨mc, adc, nc, cc, rfl⟩ := hNc.shape
      have HNc := hi hNc
      clear hNc
      go_wp2_with fail
      refine hK.out _ _ (bl_trans q1 hb1) (fun q2 => ?_)
      replace HX := hi (HX.out.below hb1)
      replace HNa := hi (HNa.out.below hb1)
      replace HNb := hi (HNb.out.below hb1)
      clear hK K q1 hb1
      have q1 := q2
      clear q2
      try simp only [Act.put, x2, x3, x4, x5, x6, x7]
      refine r1 (i := 7) rfl (fun K hK => ?_)
      go_simp
      go_at_call 38
      (with_reducible refine (plus_c _ _ (2 * x * zb) (-zb) _ HNb.out HNc.out Bp.out Bnb.out).mono ?_); rintro e w1 ⟨vd, rfl, hNd, hb1⟩
      obtain ⟨md, add, nd, cd, rfl⟩ := hNd.shape
      have HNd := hi hNd
      clear hNd
      go_wp2_with fail
      refine hK.out _ _ (bl_trans q1 hb1) (fun q2 => ?_)
      replace HX := hi (HX.out.below hb1)
      replace HNa := hi (HNa.out.below hb1)
      replace HNb := hi (HNb.out.below hb1)
      replace HNc := hi (HNc.out.below hb1)
      clear hK K q1 hb1
      have q1 := q2
      clear q2
      try simp only [Act.put, x2, x3, x4, x5, x6, x7]
      refine r1 (i := 9) rfl (fun K hK => ?_)
      obtain ⟨k0, k1⟩ := HX.out.two
      obtain ⟨f0, f1⟩ := HX.out.free2
      go_simp
      refine hK.out _ _ (bel_set2 q1 hgeHX hgeHX _ _) (fun q2 => ?_)
      replace HNa := hi (HNa.out.res HX.out (md) (.slice add nd cd))
      replace HNb := hi (HNb.out.res HX.out (md) (.slice add nd cd))
      replace HNc := hi (HNc.out.res HX.out (md) (.slice add nd cd))
      replace HNd := hi (HNd.out.res HX.out (md) (.slice add nd cd))
      replace HX := hi (HX.out.set2 (.bool md) (.slice add nd cd))
      clear hK K q1 k0 k1 f0 f1
      have q1 := q2
      clear q2
      try simp only [x5, x6, x7]
      refine wpAnyH_done (by kernel_rfl) ?_ _
      go_wp2_with fail
      go_meet
      case rel => exact ⟨_, _, _, _, _, rfl, Nat.le_trans (by have := HS0.out.2.2.2.2.2.2.2.2.sz; exact this) hgeHX, HX.out, HNd.out, ⟨HS0.out.1.below q1, HS0.out.2.1.below q1, HS0.out.2.2.1.below q1, HS0.out.2.2.2.1.below q1, HS0.out.2.2.2.2.1.below q1, HS0.out.2.2.2.2.2.1.below q1, HS0.out.2.2.2.2.2.2.1.below q1, HS0.out.2.2.2.2.2.2.2.1.below q1, HS0.out.2.2.2.2.2.2.2.2.below q1⟩⟩
  case rest =>
  obtain ⟨g9, m9, ad9, n9, c9, rfl, ge9, vn, hN, hS0⟩ := hcut
  clear HS0
  have HS0 : Hid ((fun W => Var W (w.heap.size) [.bool m4, .slice ad4 n4 c4] ∧ Var W (w.heap.size + 1) [.bool m5, .slice ad5 n5 c5] ∧ Var W (g7) [.bool m7, .slice ad7 n7 c7] ∧ Var W (g8) [.bool m8, .slice ad8 n8 c8] ∧ Var W (g9) [.bool m9, .slice ad9 n9 c9] ∧ NumIs (.agg #[.bool m4, .slice ad4 n4 c4]) (zt) W ∧ NumIs (.agg #[.bool m5, .slice ad5 n5 c5]) (zb) W ∧ NumIs (.agg #[.bool m7, .slice ad7 n7 c7]) (x) W ∧ NumIs (.agg #[.bool m8, .slice ad8 n8 c8]) (2) W ∧ NumIs (.agg #[.bool m9, .slice ad9 n9 c9]) (2 * x * zb + -zb) W ∧ Grew w 2 W) _) := ⟨hS0.1, hS0.2.1, hS0.2.2.1, hS0.2.2.2.1, vn, hS0.2.2.2.2.1, hS0.2.2.2.2.2.1, hS0.2.2.2.2.2.2.1, hS0.2.2.2.2.2.2.2.1, hN, hS0.2.2.2.2.2.2.2.2⟩
  clear hS0 vn hN
  go_upto_region 4 with (fail)
  go_cut [10] (fun pv W => ∃ g10 : Nat, ∃ (m10 : Bool) (ad10 : Option Addr) (n10 c10 : Nat), pv = .pointer (some ⟨g10, 0, none⟩) ∧ (w.heap.size + 2 ≤ g10) ∧ Var W (g10) [.bool m10, .slice ad10 n10 c10] ∧ NumIs (.agg #[.bool m10, .slice ad10 n10 c10]) (2 * x * zb + zb) W ∧ (fun W => Var W (w.heap.size) [.bool m4, .slice ad4 n4 c4] ∧ Var W (w.heap.size + 1) [.bool m5, .slice ad5 n5 c5] ∧ Var W (g7) [.bool m7, .slice ad7 n7 c7] ∧ Var W (g8) [.bool m8, .slice ad8 n8 c8] ∧ Var W (g9) [.bool m9, .slice ad9 n9 c9] ∧ NumIs (.agg #[.bool m4, .slice ad4 n4 c4]) (zt) W ∧ NumIs (.agg #[.bool m5, .slice ad5 n5 c5]) (zb) W ∧ NumIs (.agg #[.bool m7, .slice ad7 n7 c7]) (x) W ∧ NumIs (.agg #[.bool m8, .slice ad8 n8 c8]) (2) W ∧ NumIs (.agg #[.bool m9, .slice ad9 n9 c9]) (2 * x * zb + -zb) W ∧ Grew w 2 W) W)
  case first =>
    clear HP D1 D2
    refine wp_region_bel (by kernel_rfl) (fun q1 => ?_)
    revert q1
    generalize World.drew _ = W1
    intro q1
    refine tk (i := 0) (v := ?_) rfl (Or.inl ⟨by rfl, ?_⟩) ?_
    rotate_left
    · intro Wq hSw
      obtain ⟨k0, k1⟩ := (HS0.out.2.2.2.1.below hSw).two
      clear hSw
      go_simp
      all_goals (with_reducible rfl)
    try simp only [Act.put, x2, x4, x5, x6, x7]
    refine tk (i := 1) (v := ?_) rfl (Or.inl ⟨by rfl, ?_⟩) ?_
    rotate_left
    · intro Wq hSw
      obtain ⟨k0, k1⟩ := (HS0.out.2.2.1.below hSw).two
      clear hSw
      go_simp
      all_goals (with_reducible rfl)
    try simp only [Act.put, x2, x3, x4, x5, x6, x7]
    refine tk (i := 3) (v := ?_) rfl (Or.inl ⟨by rfl, ?_⟩) ?_
    rotate_left
    · intro Wq hSw
      obtain ⟨k0, k1⟩ := (HS0.out.2.1.below hSw).two
      clear hSw
      go_simp
      all_goals (with_reducible rfl)
    try simp only [Act.put, x2, x3, x4, x5, x6, x7]
    refine tk (i := 5) (v := ?_) rfl (Or.inl ⟨by rfl, ?_⟩) ?_
    rotate_left
    · intro Wq hSw
      obtain ⟨k0, k1⟩ := (HS0.out.2.1.below hSw).two
      clear hSw
      go_simp
      all_goals (with_reducible rfl)
    try simp only [Act.put, x2, x3, x4, x5, x6, x7]
    refine r2 (i := 2) (j := 7) rfl (fun K hK => ?_) rfl (fun K hK => ?_)
    · go_simp
      go_at_call 36
      (with_reducible refine (times_num _ _ 2 x _ (HS0.out.2.2.2.2.2.2.2.2.1.below q1) (HS0.out.2.2.2.2.2.2.2.1.below q1) B2.out Bx.out).mono ?_); rintro e w1 ⟨va, rfl, hNa, hb1⟩
      obtain ⟨ma, ada, na, ca, rfl⟩ := hNa.shape
      have HNa := hi hNa
      clear hNa
      go_wp2_with fail
      refine hK.out _ _ (bl_trans q1 hb1) (fun q2 => ?_)
      clear hK K q1 hb1
      have q1 := q2
      clear q2
      try simp only [Act.put, x2, x3, x4, x5, x6, x7]
      refine r2 (i := 4) (j := 7) rfl (fun K hK => ?_) rfl (fun K hK => ?_)
      · go_simp
        go_at_call 36
        (with_reducible refine (times_num _ _ (2 * x) zb _ HNa.out (HS0.out.2.2.2.2.2.2.1.below q1) B2x.out Bb.out).mono ?_); rintro e w1 ⟨vb, rfl, hNb, hb1⟩
        obtain ⟨mb, adb, nb, cb, rfl⟩ := hNb.shape
        have HNb := hi hNb
        clear hNb
        go_wp2_with fail
        refine hK.out _ _ (bl_trans q1 hb1) (fun q2 => ?_)
        replace HNa := hi (HNa.out.below hb1)
        clear hK K q1 hb1
        have q1 := q2
        clear q2
        try simp only [Act.put, x2, x3, x4, x5, x6, x7]
        refine r2 (i := 6) (j := 7) rfl (fun K hK => ?_) rfl (fun K hK => ?_)
        · go_simp
          go_at_call 38
          (with_reducible refine (plus_c _ _ (2 * x * zb) zb _ HNb.out (HS0.out.2.2.2.2.2.2.1.below q1) Bp.out Bb.out).mono ?_); rintro e w1 ⟨vd, rfl, hNd, hb1⟩
          obtain ⟨md, add, nd, cd, rfl⟩ := hNd.shape
          have HNd := hi hNd
          clear hNd
          go_wp2_with fail
          refine hK.out _ _ (bl_trans q1 hb1) (fun q2 => ?_)
          replace HNa := hi (HNa.out.below hb1)
          replace HNb := hi (HNb.out.below hb1)
          clear hK K q1 hb1
          have q1 := q2
          clear q2
          try simp only [Act.put, x2, x3, x4, x5, x6, x7]
          refine r1 (i := 7) rfl (fun K hK => ?_)
          go_simp
          refine hK.out _ _ (bel_one q1 _) (fun q2 => ?_)
          replace HNa := hi (HNa.out.below (bel_al q2 (bl_one _ _)))
          replace HNb := hi (HNb.out.below (bel_al q2 (bl_one _ _)))
          replace HNd := hi (HNd.out.below (bel_al q2 (bl_one _ _)))
          have hgeHX := q1.size
          have HX := hi (bel_var2 q1 (.bool false) (.slice none 0 0) 42)
          clear hK K q1
          have q1 := q2
          clear q2
          try simp only [Act.put, x2, x3, x4, x5, x6, x7]
          revert HNa
          revert HNb
          revert HNd
          revert HX
          revert q1
          generalize World.alloc _ _ = W2
          intro q1 HX HNd HNb HNa
          refine r1 (i := 8) rfl (fun K hK => ?_)
          obtain ⟨k0, k1⟩ := HX.out.two
          obtain ⟨f0, f1⟩ := HX.out.free2
          go_simp
          refine hK.out _ _ (bel_set2 q1 hgeHX hgeHX _ _) (fun q2 => ?_)
          replace HNa := hi (HNa.out.res HX.out (md) (.slice add nd cd))
          replace HNb := hi (HNb.out.res HX.out (md) (.slice add nd cd))
          replace HNd := hi (HNd.out.res HX.out (md) (.slice add nd cd))
          replace HX := hi (HX.out.set2 (.bool md) (.slice add nd cd))
          clear hK K q1 k0 k1 f0 f1
          have q1 := q2
          clear q2
          try simp only [x5, x6, x7]
          refine wpAnyH_done (by kernel_rfl) ?_ _
          go_wp2_with fail
          go_meet
          case rel => exact ⟨_, _, _, _, _, rfl, Nat.le_trans (by have := HS0.out.2.2.2.2.2.2.2.2.2.2.sz; exact this) hgeHX, HX.out, HNd.out, ⟨HS0.out.1.below q1, HS0.out.2.1.below q1, HS0.out.2.2.1.below q1, HS0.out.2.2.2.1.below q1, HS0.out.2.2.2.2.1.below q1, HS0.out.2.2.2.2.2.1.below q1, HS0.out.2.2.2.2.2.2.1.below q1, HS0.out.2.2.2.2.2.2.2.1.below q1, HS0.out.2.2.2.2.2.2.2.2.1.below q1, HS0.out.2.2.2.2.2.2.2.2.2.1.below q1, HS0.out.2.2.2.2.2.2.2.2.2.2.below q1⟩⟩
        · go_simp
          refine hK.out _ _ (bel_one q1 _) (fun q2 => ?_)
          replace HNa := hi (HNa.out.below (bel_al q2 (bl_one _ _)))
          replace HNb := hi (HNb.out.below (bel_al q2 (bl_one _ _)))
          have hgeHX := q1.size
          have HX := hi (bel_var2 q1 (.bool false) (.slice none 0 0) 42)
          clear hK K q1
          have q1 := q2
          clear q2
          try simp only [Act.put, x2, x3, x4, x5, x6, x7]
          revert HNa
          revert HNb
          revert HX
          revert q1
          generalize World.alloc _ _ = W2
          intro q1 HX HNb HNa
          refine r1 (i := 6) rfl (fun K hK => ?_)
          go_simp
          go_at_call 38
          (with_reducible refine (plus_c _ _ (2 * x * zb) zb _ HNb.out (HS0.out.2.2.2.2.2.2.1.below q1) Bp.out Bb.out).mono ?_); rintro e w1 ⟨vd, rfl, hNd, hb1⟩
          obtain ⟨md, add, nd, cd, rfl⟩ := hNd.shape
          have HNd := hi hNd
          clear hNd
          go_wp2_with fail
          refine hK.out _ _ (bl_trans q1 hb1) (fun q2 => ?_)
          replace HNa := hi (HNa.out.below hb1)
          replace HNb := hi (HNb.out.below hb1)
          replace HX := hi (HX.out.below hb1)
          clear hK K q1 hb1
          have q1 := q2
          clear q2
          try simp only [Act.put, x2, x3, x4, x5, x6, x7]
          refine r1 (i := 8) rfl (fun K hK => ?_)
          obtain ⟨k0, k1⟩ := HX.out.two
          obtain ⟨f0, f1⟩ := HX.out.free2
          go_simp
          refine hK.out _ _ (bel_set2 q1 hgeHX hgeHX _ _) (fun q2 => ?_)
          replace HNa := hi (HNa.out.res HX.out (md) (.slice add nd cd))
          replace HNb := hi (HNb.out.res HX.out (md) (.slice add nd cd))
          replace HNd := hi (HNd.out.res HX.out (md) (.slice add nd cd))
          replace HX := hi (HX.out.set2 (.bool md) (.slice add nd cd))
          clear hK K q1 k0 k1 f0 f1
          have q1 := q2
          clear q2
          try simp only [x5, x6, x7]
          refine wpAnyH_done (by kernel_rfl) ?_ _
          go_wp2_with fail
          go_meet
          case rel => exact ⟨_, _, _, _, _, rfl, Nat.le_trans (by have := HS0.out.2.2.2.2.2.2.2.2.2.2.sz; exact this) hgeHX, HX.out, HNd.out, ⟨HS0.out.1.below q1, HS0.out.2.1.below q1, HS0.out.2.2.1.below q1, HS0.out.2.2.2.1.below q1, HS0.out.2.2.2.2.1.below q1, HS0.out.2.2.2.2.2.1.below q1, HS0.out.2.2.2.2.2.2.1.below q1, HS0.out.2.2.2.2.2.2.2.1.below q1, HS0.out.2.2.2.2.2.2.2.2.1.below q1, HS0.out.2.2.2.2.2.2.2.2.2.1.below q1, HS0.out.2.2.2.2.2.2.2.2.2.2.below q1⟩⟩
      · go_simp
        refine hK.out _ _ (bel_one q1 _) (fun q2 => ?_)
        replace HNa := hi (HNa.out.below (bel_al q2 (bl_one _ _)))
        have hgeHX := q1.size
        have HX := hi (bel_var2 q1 (.bool false) (.slice none 0 0) 42)
        clear hK K q1
        have q1 := q2
        clear q2
        try simp only [Act.put, x2, x3, x4, x5, x6, x7]
        revert HNa
        revert HX
        revert q1
        generalize World.alloc _ _ = W2
        intro q1 HX HNa
        refine r1 (i := 4) rfl (fun K hK => ?_)
        go_simp
        go_at_call 36
        (with_reducible refine (times_num _ _ (2 * x) zb _ HNa.out (HS0.out.2.2.2.2.2.2.1.below q1) B2x.out Bb.out).mono ?_); rintro e w1 ⟨vb, rfl, hNb, hb1⟩
        obtain ⟨mb, adb, nb, cb, rfl⟩ := hNb.shape
        have HNb := hi hNb
        clear hNb
        go_wp2_with fail
        refine hK.out _ _ (bl_trans q1 hb1) (fun q2 => ?_)
        replace HNa := hi (HNa.out.below hb1)
        replace HX := hi (HX.out.below hb1)
        clear hK K q1 hb1
        have q1 := q2
        clear q2
        try simp only [Act.put, x2, x3, x4, x5, x6, x7]
        refine r1 (i := 6) rfl (fun K hK => ?_)
        go_simp
        go_at_call 38
        (with_reducible refine (plus_c _ _ (2 * x * zb) zb _ HNb.out (HS0.out.2.2.2.2.2.2.1.below q1) Bp.out Bb.out).mono ?_); rintro e w1 ⟨vd, rfl, hNd, hb1⟩
        obtain ⟨md, add, nd, cd, rfl⟩ := hNd.shape
        have HNd := hi hNd
        clear hNd
        go_wp2_with fail
        refine hK.out _ _ (bl_trans q1 hb1) (fun q2 => ?_)
        replace HNa := hi (HNa.out.below hb1)
        replace HX := hi (HX.out.below hb1)
        replace HNb := hi (HNb.out.below hb1)
        clear hK K q1 hb1
        have q1 := q2
        clear q2
        try simp only [Act.put, x2, x3, x4, x5, x6, x7]
        refine r1 (i := 8) rfl (fun K hK => ?_)
        obtain ⟨k0, k1⟩ := HX.out.two
        obtain ⟨f0, f1⟩ := HX.out.free2
        go_simp
        refine hK.out _ _ (bel_set2 q1 hgeHX hgeHX _ _) (fun q2 => ?_)
        replace HNa := hi (HNa.out.res HX.out (md) (.slice add nd cd))
        replace HNb := hi (HNb.out.res HX.out (md) (.slice add nd cd))
        replace HNd := hi (HNd.out.res HX.out (md) (.slice add nd cd))
        replace HX := hi (HX.out.set2 (.bool md) (.slice add nd cd))
        clear hK K q1 k0 k1 f0 f1
        have q1 := q2
        clear q2
        try simp only [x5, x6, x7]
        refine wpAnyH_done (by kernel_rfl) ?_ _
        go_wp2_with fail
        go_meet
        case rel => exact ⟨_, _, _, _, _, rfl, Nat.le_trans (by have := HS0.out.2.2.2.2.2.2.2.2.2.2.sz; exact this) hgeHX, HX.out, HNd.out, ⟨HS0.out.1.below q1, HS0.out.2.1.below q1, HS0.out.2.2.1.below q1, HS0.out.2.2.2.1.below q1, HS0.out.2.2.2.2.1.below q1, HS0.out.2.2.2.2.2.1.below q1, HS0.out.2.2.2.2.2.2.1.below q1, HS0.out.2.2.2.2.2.2.2.1.below q1, HS0.out.2.2.2.2.2.2.2.2.1.below q1, HS0.out.2.2.2.2.2.2.2.2.2.1.below q1, HS0.out.2.2.2.2.2.2.2.2.2.2.below q1⟩⟩
    · go_simp
      refine hK.out _ _ (bel_one q1 _) (fun q2 => ?_)
      have hgeHX := q1.size
      have HX := hi (bel_var2 q1 (.bool false) (.slice none 0 0) 42)
      clear hK K q1
      have q1 := q2
      clear q2
      try simp only [Act.put, x2, x3, x4, x5, x6, x7]
      revert HX
      revert q1
      generalize World.alloc _ _ = W2
      intro q1 HX
      refine r1 (i := 2) rfl (fun K hK => ?_)
      go_simp
      go_at_call 36
      (with_reducible refine (times_num _ _ 2 x _ (HS0.out.2.2.2.2.2.2.2.2.1.below q1) (HS0.out.2.2.2.2.2.2.2.1.below q1) B2.out Bx.out).mono ?_); rintro e w1 ⟨va, rfl, hNa, hb1⟩
      obtain ⟨ma, ada, na, ca, rfl⟩ := hNa.shape
      have HNa := hi hNa
      clear hNa
      go_wp2_with fail
      refine hK.out _ _ (bl_trans q1 hb1) (fun q2 => ?_)
      replace HX := hi (HX.out.below hb1)
      clear hK K q1 hb1
      have q1 := q2
      clear q2
      try simp only [Act.put, x2, x3, x4, x5, x6, x7]
      refine r1 (i := 4) rfl (fun K hK => ?_)
      go_simp
      go_at_call 36
      (with_reducible refine (times_num _ _ (2 * x) zb _ HNa.out (HS0.out.2.2.2.2.2.2.1.below q1) B2x.out Bb.out).mono ?_); rintro e w1 ⟨vb, rfl, hNb, hb1⟩
      obtain ⟨mb, adb, nb, cb, rfl⟩ := hNb.shape
      have HNb := hi hNb
      clear hNb
      go_wp2_with fail
      refine hK.out _ _ (bl_trans q1 hb1) (fun q2 => ?_)
      replace HX := hi (HX.out.below hb1)
      replace HNa := hi (HNa.out.below hb1)
      clear hK K q1 hb1
      have q1 := q2
      clear q2
      try simp only [Act.put, x2, x3, x4, x5, x6, x7]
      refine r1 (i := 6) rfl (fun K hK => ?_)
      go_simp
      go_at_call 38
      (with_reducible refine (plus_c _ _ (2 * x * zb) zb _ HNb.out (HS0.out.2.2.2.2.2.2.1.below q1) Bp.out Bb.out).mono ?_); rintro e w1 ⟨vd, rfl, hNd, hb1⟩
      obtain ⟨md, add, nd, cd, rfl⟩ := hNd.shape
      have HNd := hi hNd
      clear hNd
      go_wp2_with fail
      refine hK.out _ _ (bl_trans q1 hb1) (fun q2 => ?_)
      replace HX := hi (HX.out.below hb1)
      replace HNa := hi (HNa.out.below hb1)
      replace HNb := hi (HNb.out.below hb1)
      clear hK K q1 hb1
      have q1 := q2
      clear q2
      try simp only [Act.put, x2, x3, x4, x5, x6, x7]
      refine r1 (i := 8) rfl (fun K hK => ?_)
      obtain ⟨k0, k1⟩ := HX.out.two
      obtain ⟨f0, f1⟩ := HX.out.free2
      go_simp
      refine hK.out _ _ (bel_set2 q1 hgeHX hgeHX _ _) (fun q2 => ?_)
      replace HNa := hi (HNa.out.res HX.out (md) (.slice add nd cd))
      replace HNb := hi (HNb.out.res HX.out (md) (.slice add nd cd))
      replace HNd := hi (HNd.out.res HX.out (md) (.slice add nd cd))
      replace HX := hi (HX.out.set2 (.bool md) (.slice add nd cd))
      clear hK K q1 k0 k1 f0 f1
      have q1 := q2
      clear q2
      try simp only [x5, x6, x7]
      refine wpAnyH_done (by kernel_rfl) ?_ _
      go_wp2_with fail
      go_meet
      case rel => exact ⟨_, _, _, _, _, rfl, Nat.le_trans (by have := HS0.out.2.2.2.2.2.2.2.2.2.2.sz; exact this) hgeHX, HX.out, HNd.out, ⟨HS0.out.1.below q1, HS0.out.2.1.below q1, HS0.out.2.2.1.below q1, HS0.out.2.2.2.1.below q1, HS0.out.2.2.2.2.1.below q1, HS0.out.2.2.2.2.2.1.below q1, HS0.out.2.2.2.2.2.2.1.below q1, HS0.out.2.2.2.2.2.2.2.1.below q1, HS0.out.2.2.2.2.2.2.2.2.1.below q1, HS0.out.2.2.2.2.2.2.2.2.2.1.below q1, HS0.out.2.2.2.2.2.2.2.2.2.2.below q1⟩⟩
  case rest =>
  obtain ⟨g10, m10, ad10, n10, c10, rfl, ge10, vn, hN, hS0⟩ := hcut
  clear HS0
  have HS0 : Hid ((fun W => Var W (w.heap.size) [.bool m4, .slice ad4 n4 c4] ∧ Var W (w.heap.size + 1) [.bool m5, .slice ad5 n5 c5] ∧ Var W (g7) [.bool m7, .slice ad7 n7 c7] ∧ Var W (g8) [.bool m8, .slice ad8 n8 c8] ∧ Var W (g9) [.bool m9, .slice ad9 n9 c9] ∧ Var W (g10) [.bool m10, .slice ad10 n10 c10] ∧ NumIs (.agg #[.bool m4, .slice ad4 n4 c4]) (zt) W ∧ NumIs (.agg #[.bool m5, .slice ad5 n5 c5]) (zb) W ∧ NumIs (.agg #[.bool m7, .slice ad7 n7 c7]) (x) W ∧ NumIs (.agg #[.bool m8, .slice ad8 n8 c8]) (2) W ∧ NumIs (.agg #[.bool m9, .slice ad9 n9 c9]) (2 * x * zb + -zb) W ∧ NumIs (.agg #[.bool m10, .slice ad10 n10 c10]) (2 * x * zb + zb) W ∧ Grew w 2 W) _) := ⟨hS0.1, hS0.2.1, hS0.2.2.1, hS0.2.2.2.1, hS0.2.2.2.2.1, vn, hS0.2.2.2.2.2.1, hS0.2.2.2.2.2.2.1, hS0.2.2.2.2.2.2.2.1, hS0.2.2.2.2.2.2.2.2.1, hS0.2.2.2.2.2.2.2.2.2.1, hN, hS0.2.2.2.2.2.2.2.2.2.2⟩
  clear hS0 vn hN
  go_upto_region 5 with (fail)
  obtain ⟨c0_, d0_⟩ := HS0.out.1.two
  obtain ⟨c1_, d1_⟩ := HS0.out.2.1.two
  obtain ⟨c2_, d2_⟩ := HS0.out.2.2.1.two
  obtain ⟨c3_, d3_⟩ := HS0.out.2.2.2.1.two
  obtain ⟨c4_, d4_⟩ := HS0.out.2.2.2.2.1.two
  obtain ⟨c5_, d5_⟩ := HS0.out.2.2.2.2.2.1.two
  go_wp2_with fail
  (with_reducible refine (cmp_n _ _ (2 * x * zb + -zb) zt Bl.out Bt.out _ HS0.out.2.2.2.2.2.2.2.2.2.2.1 HS0.out.2.2.2.2.2.2.1).mono ?_); rintro e w1 ⟨rfl, hb1⟩
  replace HS0 : Hid ((fun W => Var W (w.heap.size) [.bool m4, .slice ad4 n4 c4] ∧ Var W (w.heap.size + 1) [.bool m5, .slice ad5 n5 c5] ∧ Var W (g7) [.bool m7, .slice ad7 n7 c7] ∧ Var W (g8) [.bool m8, .slice ad8 n8 c8] ∧ Var W (g9) [.bool m9, .slice ad9 n9 c9] ∧ Var W (g10) [.bool m10, .slice ad10 n10 c10] ∧ NumIs (.agg #[.bool m4, .slice ad4 n4 c4]) (zt) W ∧ NumIs (.agg #[.bool m5, .slice ad5 n5 c5]) (zb) W ∧ NumIs (.agg #[.bool m7, .slice ad7 n7 c7]) (x) W ∧ NumIs (.agg #[.bool m8, .slice ad8 n8 c8]) (2) W ∧ NumIs (.agg #[.bool m9, .slice ad9 n9 c9]) (2 * x * zb + -zb) W ∧ NumIs (.agg #[.bool m10, .slice ad10 n10 c10]) (2 * x * zb + zb) W ∧ Grew w 2 W) w1) := ⟨HS0.out.1.below hb1, HS0.out.2.1.below hb1, HS0.out.2.2.1.below hb1, HS0.out.2.2.2.1.below hb1, HS0.out.2.2.2.2.1.below hb1, HS0.out.2.2.2.2.2.1.below hb1, HS0.out.2.2.2.2.2.2.1.below hb1, HS0.out.2.2.2.2.2.2.2.1.below hb1, HS0.out.2.2.2.2.2.2.2.2.1.below hb1, HS0.out.2.2.2.2.2.2.2.2.2.1.below hb1, HS0.out.2.2.2.2.2.2.2.2.2.2.1.below hb1, HS0.out.2.2.2.2.2.2.2.2.2.2.2.1.below hb1, HS0.out.2.2.2.2.2.2.2.2.2.2.2.2.below hb1⟩
  clear c0_ d0_ c1_ d1_ c2_ d2_ c3_ d3_ c4_ d4_ c5_ d5_ hb1
  obtain ⟨c0_, d0_⟩ := HS0.out.1.two
  obtain ⟨c1_, d1_⟩ := HS0.out.2.1.two
  obtain ⟨c2_, d2_⟩ := HS0.out.2.2.1.two
  obtain ⟨c3_, d3_⟩ := HS0.out.2.2.2.1.two
  obtain ⟨c4_, d4_⟩ := HS0.out.2.2.2.2.1.two
  obtain ⟨c5_, d5_⟩ := HS0.out.2.2.2.2.2.1.two
  generalize sg3 (2 * x * zb + -zb - zt) = s at *
  have HG := hi HS0.out.2.2.2.2.2.2.2.2.2.2.2.2
  rcases dec2h (s ≤ 0) with hs | hs
  · have E1 : Hid (decide (2 * x * zb + -zb ≤ zt) = true) := by rw [← D1.out, hs]; exact rfl
    clear D1
    go_wp2_with fail
    (with_reducible refine (cmp_n _ _ zt (2 * x * zb + zb) Bt.out Bh.out _ HS0.out.2.2.2.2.2.2.1 HS0.out.2.2.2.2.2.2.2.2.2.2.2.1).mono ?_); rintro e w1 ⟨rfl, hb1⟩
    generalize sg3 (zt - (2 * x * zb + zb)) = s2 at *
    go_wp2
    go_ret
    exact ⟨by rw [HP.out, E1.out, ← D2.out]; rfl, (HG.out.below hb1).hb⟩
  · have E1 : Hid (decide (2 * x * zb + -zb ≤ zt) = false) := by rw [← D1.out, hs]; exact rfl
    clear D1
    go_wp2
    go_ret
    exact ⟨by rw [HP.out, E1.out]; rfl, HG.out.hb⟩
end Go.Proofs.Ytojfggnimmaemaa

/-
  The walk of the law PredCentres.
-/
namespace Go.Proofs.Ytojfggnimmaemaa
open Go.RowKit

theorem half_ok {n d : Int} (hd : 0 < d) : halfB ((n + d) / (d + d)) n d = true := by
  have h2 : 0 < d + d := by omega
  have e := Int.mul_ediv_add_emod (n + d) (d + d)
  have h3 := Int.emod_nonneg (n + d) (show d + d ≠ 0 by omega)
  have h4 := Int.emod_lt_of_pos (n + d) h2
  generalize (n + d) / (d + d) = q at *
  generalize (n + d) % (d + d) = r at *
  have e2 : (d + d) * q = 2 * q * d := by grind
  rw [e2] at e
  unfold halfB
  rw [decide_eq_true (show 2 * q * d + -d ≤ n by omega), decide_eq_true (show n < 2 * q * d + d by omega)]
  rfl
/-- too far to the right, or to the left: so is the number against which the law holds it -/
theorem far_is {n d k : Int} (hd : 0 < d) (h : 4294967296 < shiftZ k n d ∨ shiftZ k n d < -4294967296) : 8589934593 * d ≤ n + d * (2 * k) ∨ n + d * (2 * k) < -(8589934593 * d) := by
  unfold shiftZ at h
  have h2 : 0 < d + d := by omega
  have e := Int.mul_ediv_add_emod (n + d) (d + d)
  have h3 := Int.emod_nonneg (n + d) (show d + d ≠ 0 by omega)
  have h4 := Int.emod_lt_of_pos (n + d) h2
  generalize (n + d) / (d + d) = q at *
  generalize (n + d) % (d + d) = r at *
  rcases h with h | h
  · left
    have m := Int.mul_le_mul_of_nonneg_left (show (4294967297 : Int) ≤ q + k by omega) (show 0 ≤ d + d by omega)
    have e3 : (d + d) * (q + k) = (d + d) * q + d * (2 * k) := by grind
    omega
  · right
    have m := Int.mul_le_mul_of_nonneg_left (show q + k ≤ (-4294967297 : Int) by omega) (show 0 ≤ d + d by omega)
    have e3 : (d + d) * (q + k) = (d + d) * q + d * (2 * k) := by grind
    omega
theorem out_is {x y d k l : Int} (hd : 0 < d) (h : fitB ⟨shiftZ k x d, shiftZ l y d⟩ = false) :
    8589934593 * d ≤ x + d * (2 * k) ∨ 8589934593 * d ≤ y + d * (2 * l) ∨ x + d * (2 * k) < -(8589934593 * d) ∨ y + d * (2 * l) < -(8589934593 * d) := by
  unfold fitB at h
  have h := of_decide_eq_false h
  unfold Pt.fits at h
  dsimp only at h
  rcases Classical.em (4294967296 < shiftZ k x d ∨ shiftZ k x d < -4294967296) with h1 | h1
  · rcases far_is hd h1 with h | h
    · exact .inl h
    · exact .inr (.inr (.inl h))
  · rcases far_is hd (k := l) (n := y) (by omega) with h | h
    · exact .inr (.inl h)
    · exact .inr (.inr (.inr h))
theorem dec_ge (a b : Int) : decide (0 ≤ sg3 (a - b)) = decide (b ≤ a) := by
  apply decide_eq_decide.2
  rcases sg3_vals (a - b) with ⟨h, e⟩ | ⟨h, e⟩ | ⟨h, e⟩ <;> rw [e] <;> omega
theorem centre_none {a b c : Pt} (h : orientZ a b c = 0) : centreP a b c = ⟨0, 0⟩ ∧ centreE a b c = 2 := ⟨by unfold centreP; rw [if_pos h], by unfold centreE; rw [if_pos h]⟩
theorem orient_unfit {a b c : Pt} (h : (fitB a && fitB b && fitB c) = false) : orientZ a b c = 0 := by unfold orientZ; rw [h]; rfl

/-- what is left of a walk -/
structure Tail (P : Prop) : Prop where
  out : P

set_option maxHeartbeats 32000000 in
set_option maxRecDepth 100000 in
noncomputable def pcA (a b c : Pt) (w : World) : {P : Prop // Tail P → Calls Try.prog 8 #[.agg #[.int .i64 a.x, .int .i64 a.y], .agg #[.int .i64 b.x, .int .i64 b.y], .agg #[.int .i64 c.x, .int .i64 c.y]] w (Gives (.bool true) w)} := ⟨_, fun hP => by
  have C1 := hi (fun W => centre_l a b c W)
  have F1 := hi (fun W => refFits3_l a W)
  have F2 := hi (fun W => refFits3_l b W)
  have F3 := hi (fun W => refFits3_l c W)
  have CO := hi (fun W => refOrient_l a b c W)
  have HN0 : Hid (orientZ a b c = 0 → centreP a b c = ⟨0, 0⟩ ∧ centreE a b c = 2) := centre_none
  have HU : Hid ((fitB a && fitB b && fitB c) = false → orientZ a b c = 0) := orient_unfit
  have HL : Hid (0 < orientZ a b c → Left a b c (centreP a b c) (centreE a b c)) := left_pos
  have HN : Hid (orientZ a b c < 0 → Left a c b (centreP a b c) (centreE a b c)) := left_neg
  have hv := orient_vals a b c
  have E0 : ∀ w, (Op.equalIn 10000 23 (.agg #[.int .i64 0, .int .i64 0]) (.agg #[.int .i64 0, .int .i64 0])).run Try.prog w = .ok true w := eqPt ⟨0, 0⟩ ⟨0, 0⟩
  have EZ := hi E0
  clear E0
  generalize centreP a b c = p at *
  generalize centreE a b c = re at *
  generalize orientZ a b c = t at *
  generalize fitB a = fa at *
  generalize fitB b = fb at *
  generalize fitB c = fc at *
  go_enter Try.func8, Try.ntmps8
  go_upto_region 1 with (fail)
  refine wp_abs (fun W => Var W (w.heap.size) [.int .i64 a.x, .int .i64 a.y] ∧ Var W (w.heap.size + 1) [.int .i64 b.x, .int .i64 b.y] ∧ Var W (w.heap.size + 1 + 1) [.int .i64 c.x, .int .i64 c.y] ∧ Grew w 3 W) ?_ ?_
  · exact ⟨(var2_new _ _ _ _ _ rfl).below (bl_alloc (bl_one _ _) _), (var2_new _ _ _ _ _ (by simp)).below (bl_one _ _), var2_new _ _ _ _ _ (by simp), by repeat (first | (with_reducible exact Below.refl _ _) | (with_reducible refine bl_alloc ?_ _) | (with_reducible refine Below.drew ?_) | (with_reducible refine below_drewN' ?_ _) | ((with_reducible refine bl_set ?_ ?_ _); (rotate_left; (dsimp only; omega)))), by simp⟩
  rintro W0 hS0
  have HS0 := hi hS0
  clear hS0
  go_cut [7, 8] (fun pv ev W => ∃ g7 : Nat, (g7 ≠ w.heap.size + 1 ∧ g7 ≠ w.heap.size + 1 + 1 ∧ g7 ≠ w.heap.size) ∧ pv = .pointer (some ⟨g7, 0, none⟩) ∧ ev = .int .i64 re ∧ Var W (g7) [.int .i64 p.x, .int .i64 p.y] ∧ (fun W => Var W (w.heap.size) [.int .i64 a.x, .int .i64 a.y] ∧ Var W (w.heap.size + 1) [.int .i64 b.x, .int .i64 b.y] ∧ Var W (w.heap.size + 1 + 1) [.int .i64 c.x, .int .i64 c.y] ∧ Grew w 3 W) W)
  case first =>
    clear F1 F2 F3 CO HN0 HU HL HN hv EZ
    obtain ⟨c0_, d0_⟩ := HS0.out.1.two
    obtain ⟨c1_, d1_⟩ := HS0.out.2.1.two
    obtain ⟨c2_, d2_⟩ := HS0.out.2.2.1.two
    go_wp2_with fail
    (with_reducible refine (C1.out _).mono ?_); rintro e w1 ⟨rfl, hb1⟩
    try dsimp only
    go_wp2_with fail
    go_meet
    case rel =>
      have sz := (HS0.out.2.2.2.below hb1).sz
      exact ⟨_, ⟨by omega, by omega, by omega⟩, rfl, rfl, var2_new _ _ _ _ _ rfl, ⟨HS0.out.1.below (bl_trans hb1 (bl_one _ _)), HS0.out.2.1.below (bl_trans hb1 (bl_one _ _)), HS0.out.2.2.1.below (bl_trans hb1 (bl_one _ _)), HS0.out.2.2.2.below (bl_trans hb1 (bl_one _ _))⟩⟩
  case rest =>
  obtain ⟨g7, ne7, rfl, rfl, v7, hS0⟩ := hcut
  clear HS0 C1
  have HS0 : Hid ((fun W => Var W (w.heap.size) [.int .i64 a.x, .int .i64 a.y] ∧ Var W (w.heap.size + 1) [.int .i64 b.x, .int .i64 b.y] ∧ Var W (w.heap.size + 1 + 1) [.int .i64 c.x, .int .i64 c.y] ∧ Var W (g7) [.int .i64 p.x, .int .i64 p.y] ∧ Grew w 3 W) _) := ⟨hS0.1, hS0.2.1, hS0.2.2.1, v7, hS0.2.2.2⟩
  clear hS0 v7
  go_upto_region 2 with (fail)
  go_cut [44] (fun tv W => tv = .bool (decide (t = 0)) ∧ (fun W => Var W (w.heap.size) [.int .i64 a.x, .int .i64 a.y] ∧ Var W (w.heap.size + 1) [.int .i64 b.x, .int .i64 b.y] ∧ Var W (w.heap.size + 1 + 1) [.int .i64 c.x, .int .i64 c.y] ∧ Var W (g7) [.int .i64 p.x, .int .i64 p.y] ∧ Grew w 3 W) W)
  case first =>
    clear HN0 HL HN EZ
    obtain ⟨c0_, d0_⟩ := HS0.out.1.two
    obtain ⟨c1_, d1_⟩ := HS0.out.2.1.two
    obtain ⟨c2_, d2_⟩ := HS0.out.2.2.1.two
    obtain ⟨c3_, d3_⟩ := HS0.out.2.2.2.1.two
    go_wp2_with fail
    (with_reducible refine (F1.out _).mono ?_); rintro e w1 ⟨rfl, hb1⟩
    replace HS0 : Hid ((fun W => Var W (w.heap.size) [.int .i64 a.x, .int .i64 a.y] ∧ Var W (w.heap.size + 1) [.int .i64 b.x, .int .i64 b.y] ∧ Var W (w.heap.size + 1 + 1) [.int .i64 c.x, .int .i64 c.y] ∧ Var W (g7) [.int .i64 p.x, .int .i64 p.y] ∧ Grew w 3 W) w1) := ⟨HS0.out.1.below hb1, HS0.out.2.1.below hb1, HS0.out.2.2.1.below hb1, HS0.out.2.2.2.1.below hb1, HS0.out.2.2.2.2.below hb1⟩
    clear c0_ d0_ c1_ d1_ c2_ d2_ c3_ d3_ hb1
    try dsimp only
    obtain ⟨c0_, d0_⟩ := HS0.out.1.two
    obtain ⟨c1_, d1_⟩ := HS0.out.2.1.two
    obtain ⟨c2_, d2_⟩ := HS0.out.2.2.1.two
    obtain ⟨c3_, d3_⟩ := HS0.out.2.2.2.1.two
    cases fa
    case false =>
      have ht : t = 0 := HU.out (by simp)
      subst ht
      clear HU CO
      go_wp2_with fail
      go_meet
      case rel => exact ⟨rfl, HS0.out⟩
    case true =>
    go_wp2_with fail
    (with_reducible refine (F2.out _).mono ?_); rintro e w1 ⟨rfl, hb1⟩
    replace HS0 : Hid ((fun W => Var W (w.heap.size) [.int .i64 a.x, .int .i64 a.y] ∧ Var W (w.heap.size + 1) [.int .i64 b.x, .int .i64 b.y] ∧ Var W (w.heap.size + 1 + 1) [.int .i64 c.x, .int .i64 c.y] ∧ Var W (g7) [.int .i64 p.x, .int .i64 p.y] ∧ Grew w 3 W) w1) := ⟨HS0.out.1.below hb1, HS0.out.2.1.below hb1, HS0.out.2.2.1.below hb1, HS0.out.2.2.2.1.below hb1, HS0.out.2.2.2.2.below hb1⟩
    clear c0_ d0_ c1_ d1_ c2_ d2_ c3_ d3_ hb1
    try dsimp only
    obtain ⟨c0_, d0_⟩ := HS0.out.1.two
    obtain ⟨c1_, d1_⟩ := HS0.out.2.1.two
    obtain ⟨c2_, d2_⟩ := HS0.out.2.2.1.two
    obtain ⟨c3_, d3_⟩ := HS0.out.2.2.2.1.two
    cases fb
    case false =>
      have ht : t = 0 := HU.out (by simp)
      subst ht
      clear HU CO
      go_wp2_with fail
      go_meet
      case rel => exact ⟨rfl, HS0.out⟩
    case true =>
    go_wp2_with fail
    (with_reducible refine (F3.out _).mono ?_); rintro e w1 ⟨rfl, hb1⟩
    replace HS0 : Hid ((fun W => Var W (w.heap.size) [.int .i64 a.x, .int .i64 a.y] ∧ Var W (w.heap.size + 1) [.int .i64 b.x, .int .i64 b.y] ∧ Var W (w.heap.size + 1 + 1) [.int .i64 c.x, .int .i64 c.y] ∧ Var W (g7) [.int .i64 p.x, .int .i64 p.y] ∧ Grew w 3 W) w1) := ⟨HS0.out.1.below hb1, HS0.out.2.1.below hb1, HS0.out.2.2.1.below hb1, HS0.out.2.2.2.1.below hb1, HS0.out.2.2.2.2.below hb1⟩
    clear c0_ d0_ c1_ d1_ c2_ d2_ c3_ d3_ hb1
    try dsimp only
    obtain ⟨c0_, d0_⟩ := HS0.out.1.two
    obtain ⟨c1_, d1_⟩ := HS0.out.2.1.two
    obtain ⟨c2_, d2_⟩ := HS0.out.2.2.1.two
    obtain ⟨c3_, d3_⟩ := HS0.out.2.2.2.1.two
    cases fc
    case false =>
      have ht : t = 0 := HU.out (by simp)
      subst ht
      clear HU CO
      go_wp2_with fail
      go_meet
      case rel => exact ⟨rfl, HS0.out⟩
    case true =>
    go_wp2_with fail
    (with_reducible refine (CO.out _).mono ?_); rintro e w1 ⟨rfl, hb1⟩
    replace HS0 : Hid ((fun W => Var W (w.heap.size) [.int .i64 a.x, .int .i64 a.y] ∧ Var W (w.heap.size + 1) [.int .i64 b.x, .int .i64 b.y] ∧ Var W (w.heap.size + 1 + 1) [.int .i64 c.x, .int .i64 c.y] ∧ Var W (g7) [.int .i64 p.x, .int .i64 p.y] ∧ Grew w 3 W) w1) := ⟨HS0.out.1.below hb1, HS0.out.2.1.below hb1, HS0.out.2.2.1.below hb1, HS0.out.2.2.2.1.below hb1, HS0.out.2.2.2.2.below hb1⟩
    clear c0_ d0_ c1_ d1_ c2_ d2_ c3_ d3_ hb1
    try dsimp only
    obtain ⟨c0_, d0_⟩ := HS0.out.1.two
    obtain ⟨c1_, d1_⟩ := HS0.out.2.1.two
    obtain ⟨c2_, d2_⟩ := HS0.out.2.2.1.two
    obtain ⟨c3_, d3_⟩ := HS0.out.2.2.2.1.two
    clear HU CO
    rcases hv with rfl | rfl | rfl
    all_goals
      go_wp2_with fail
      go_meet
      case rel => exact ⟨rfl, HS0.out⟩
  case rest =>
  obtain ⟨rfl, hS0⟩ := hcut
  clear HS0
  have HS0 := hi hS0
  clear hS0 HU F1 F2 F3
  rename_i K0 aK0 K aK
  refine aK _ _ ?_
  clear aK K
  repeat revert ‹Value›
  revert HS0
  revert ne7
  revert EZ
  revert hv
  revert HN
  revert HL
  revert HN0
  revert CO
  revert wc
  revert aK0
  revert K0
  revert g7
  revert t
  revert re
  revert p
  exact hP.out⟩
end Go.Proofs.Ytojfggnimmaemaa

/-
  The walk of the law PredCentres, part 2.
-/
namespace Go.Proofs.Ytojfggnimmaemaa
open Go.RowKit

set_option maxHeartbeats 32000000 in
set_option maxRecDepth 100000 in
noncomputable def pcB (a b c : Pt) (w : World) : {P : Prop // Tail P → (pcA a b c w).val} := ⟨_, fun hP => by
  intro p re t g7 K0 aK0 wc CO HN0 HL HN hv EZ ne7 HS0
  intros
  by_cases ht : t = 0
  · obtain ⟨rfl, rfl⟩ := HN0.out ht
    rw [decide_eq_true ht]
    have E0 := EZ.out
    clear HN0 HL HN hv ht EZ CO
    obtain ⟨c0, c1⟩ := HS0.out.2.2.2.1.two
    have HG := hi HS0.out.2.2.2.2
    clear HS0
    go_wp2_with (first
      | (go_at_call 21; (with_reducible refine (known3_l _).mono ?_); rintro e w2 ⟨rfl, hb2⟩)
      | go_in)
    go_ret
    exact ⟨rfl, (HG.out.below hb2).hb⟩
  rw [decide_eq_false ht]
  clear HN0
  go_upto_region 4 with (fail)
  obtain ⟨c0_, d0_⟩ := HS0.out.1.two
  obtain ⟨c1_, d1_⟩ := HS0.out.2.1.two
  obtain ⟨c2_, d2_⟩ := HS0.out.2.2.1.two
  obtain ⟨c3_, d3_⟩ := HS0.out.2.2.2.1.two
  go_wp2_with fail
  (with_reducible refine (CO.out _).mono ?_); rintro e w1 ⟨rfl, hb1⟩
  replace HS0 : Hid ((fun W => Var W (w.heap.size) [.int .i64 a.x, .int .i64 a.y] ∧ Var W (w.heap.size + 1) [.int .i64 b.x, .int .i64 b.y] ∧ Var W (w.heap.size + 1 + 1) [.int .i64 c.x, .int .i64 c.y] ∧ Var W (g7) [.int .i64 p.x, .int .i64 p.y] ∧ Grew w 3 W) w1) := ⟨HS0.out.1.below hb1, HS0.out.2.1.below hb1, HS0.out.2.2.1.below hb1, HS0.out.2.2.2.1.below hb1, HS0.out.2.2.2.2.below hb1⟩
  clear c0_ d0_ c1_ d1_ c2_ d2_ c3_ d3_ hb1
  try dsimp only
  obtain ⟨c0_, d0_⟩ := HS0.out.1.two
  obtain ⟨c1_, d1_⟩ := HS0.out.2.1.two
  obtain ⟨c2_, d2_⟩ := HS0.out.2.2.1.two
  obtain ⟨c3_, d3_⟩ := HS0.out.2.2.2.1.two
  clear CO c0_ d0_ c1_ d1_ c2_ d2_ c3_ d3_
  go_upto_if 59 with (fail)
  go_cut [5] (fun p5 W => p5 = .pointer (some ⟨w.heap.size + 1 + 1, 0, none⟩) ∧ ∃ b2 c2 : Pt, Left a b2 c2 p re ∧ (fun W => Var W (w.heap.size) [.int .i64 a.x, .int .i64 a.y] ∧ Var W (w.heap.size + 1) [.int .i64 b2.x, .int .i64 b2.y] ∧ Var W (w.heap.size + 1 + 1) [.int .i64 c2.x, .int .i64 c2.y] ∧ Var W (g7) [.int .i64 p.x, .int .i64 p.y] ∧ Grew w 3 W) W)
  case first =>
    obtain ⟨c0_, d0_⟩ := HS0.out.1.two
    obtain ⟨c1_, d1_⟩ := HS0.out.2.1.two
    obtain ⟨c2_, d2_⟩ := HS0.out.2.2.1.two
    obtain ⟨c3_, d3_⟩ := HS0.out.2.2.2.1.two
    obtain ⟨f2, f3⟩ := HS0.out.2.1.free2
    obtain ⟨f4, f5⟩ := HS0.out.2.2.1.free2
    have lg7 := HS0.out.2.2.2.1.lt
    clear EZ
    rcases hv with rfl | rfl | rfl
    · have HN2 := hi (HN.out (by decide))
      clear HL HN
      go_wp2_with fail
      go_meet
      case rel =>
        have n7 : g7 ≠ w.heap.size + 1 ∧ g7 ≠ w.heap.size + 1 + 1 := ⟨ne7.1, ne7.2.1⟩
        exact ⟨rfl, c, b, HN2.out, ((((HS0.out.1.far (by dsimp only; omega) _).far (by dsimp only; omega) _).far (by dsimp only; omega) _).far (by dsimp only; omega) _), ((HS0.out.2.1.set2 _ _).far (by dsimp only; omega) _).far (by dsimp only; omega) _, ((HS0.out.2.2.1.far (by dsimp only; omega) _).far (by dsimp only; omega) _).set2 _ _, ((((HS0.out.2.2.2.1.far (by dsimp only; omega) _).far (by dsimp only; omega) _).far (by dsimp only; omega) _).far (by dsimp only; omega) _), ((((HS0.out.2.2.2.2.set (by dsimp only; omega) _).set (by dsimp only; omega) _).set (by dsimp only; omega) _).set (by dsimp only; omega) _)⟩
    · exact absurd rfl ht
    · have HL2 := hi (HL.out (by decide))
      clear HN HL
      go_wp2_with fail
      go_meet
      case rel => exact ⟨rfl, b, c, HL2.out, HS0.out⟩
  case rest =>
  obtain ⟨rfl, b', c', hL, hS0⟩ := hcut
  clear HS0 HL HN hv ht ne7
  have HS0 := hi hS0
  clear hS0
  obtain ⟨ga, gb, gc, hz, hp, he⟩ := hL
  have S1 := hi (fun W => show Calls Try.prog 34 #[.agg #[.int .i64 a.x, .int .i64 a.y], .agg #[.int .i64 b'.x, .int .i64 b'.y]] W (NumP (sqZ a b') W) from by have := square_n a b' W; rw [sqW_is ga gb] at this; exact this)
  have S2 := hi (fun W => show Calls Try.prog 34 #[.agg #[.int .i64 a.x, .int .i64 a.y], .agg #[.int .i64 c'.x, .int .i64 c'.y]] W (NumP (sqZ a c') W) from by have := square_n a c' W; rw [sqW_is ga gc] at this; exact this)
  have S3 := hi (fun W => area_n a b' c' (fitB_iff.1 ga).wf (fitB_iff.1 gb).wf (fitB_iff.1 gc).wf W)
  have BP := sqZ_b ga gb
  have BQ := sqZ_b ga gc
  have BD := cross_b ga gb gc
  have AU := dif_ab ga gb
  have AV := dif_ab ga gc
  have hK : Ab a.x 4294967296 ∧ Ab a.y 4294967296 := by have := fitB_iff.1 ga; unfold Pt.fits at this; unfold Ab; omega
  have HF := hi (fun W => refFits3_l p W)
  have hpp : p = (if fitB ⟨ctrX a b' c', ctrY a b' c'⟩ then ⟨ctrX a b' c', ctrY a b' c'⟩ else ⟨0, 0⟩) := hp
  have hee : re = (if fitB ⟨ctrX a b' c', ctrY a b' c'⟩ then 0 else 10) := he
  unfold ctrX ctrY at hpp hee
  have wux : IntKind.i64.wrap (b'.x - a.x) = b'.x - a.x := IntWalk.i64_in _ (by have := AU.1; unfold Ab at this; omega)
  have wuy : IntKind.i64.wrap (b'.y - a.y) = b'.y - a.y := IntWalk.i64_in _ (by have := AU.2; unfold Ab at this; omega)
  have wvx : IntKind.i64.wrap (c'.x - a.x) = c'.x - a.x := IntWalk.i64_in _ (by have := AV.1; unfold Ab at this; omega)
  have wvy : IntKind.i64.wrap (c'.y - a.y) = c'.y - a.y := IntWalk.i64_in _ (by have := AV.2; unfold Ab at this; omega)
  have w2x : IntKind.i64.wrap (2 * a.x) = 2 * a.x := IntWalk.i64_in _ (by have := hK.1; unfold Ab at this; omega)
  have w2y : IntKind.i64.wrap (2 * a.y) = 2 * a.y := IntWalk.i64_in _ (by have := hK.2; unfold Ab at this; omega)
  clear hp he ga gb gc
  generalize sqZ a b' = zp at *
  generalize sqZ a c' = zq at *
  generalize crossZ a b' c' = zd at *
  generalize hux : b'.x - a.x = ux at *
  generalize huy : b'.y - a.y = uy at *
  generalize hvx : c'.x - a.x = vx at *
  generalize hvy : c'.y - a.y = vy at *
  have wux2 : IntKind.i64.wrap (b'.x - a.x) = ux := by rw [hux]; exact wux
  have wuy2 : IntKind.i64.wrap (b'.y - a.y) = uy := by rw [huy]; exact wuy
  have wvx2 : IntKind.i64.wrap (c'.x - a.x) = vx := by rw [hvx]; exact wvx
  have wvy2 : IntKind.i64.wrap (c'.y - a.y) = vy := by rw [hvy]; exact wvy
  have WX := hi (And.intro (And.intro wux2 wuy2) (And.intro wvx2 wvy2))
  have W2 := hi (And.intro w2x w2y)
  have Ux := hi (show -9223372036854775808 ≤ ux ∧ ux ≤ 9223372036854775807 by have := AU.1; unfold Ab at this; omega)
  have Uy := hi (show -9223372036854775808 ≤ uy ∧ uy ≤ 9223372036854775807 by have := AU.2; unfold Ab at this; omega)
  have Vx := hi (show -9223372036854775808 ≤ vx ∧ vx ≤ 9223372036854775807 by have := AV.1; unfold Ab at this; omega)
  have Vy := hi (show -9223372036854775808 ≤ vy ∧ vy ≤ 9223372036854775807 by have := AV.2; unfold Ab at this; omega)
  have GP := hi (BP.big (by decide))
  have GQ := hi (BQ.big (by decide))
  have GD := hi (BD.big (by decide))
  have Gux := hi (AU.1.big (by decide))
  have Guy := hi (AU.2.big (by decide))
  have Gvx := hi (AV.1.big (by decide))
  have Gvy := hi (AV.2.big (by decide))
  have GPvy := hi ((BP.mul AV.2).big (by decide))
  have GQuy := hi ((BQ.mul AU.2).big (by decide))
  have GnQuy : Hid (-BIG < -(zq * uy) ∧ -(zq * uy) < BIG) := by have := GQuy.out; unfold Hid; omega
  have GQux := hi ((BQ.mul AU.1).big (by decide))
  have GPvx := hi ((BP.mul AV.1).big (by decide))
  have GnPvx : Hid (-BIG < -(zp * vx) ∧ -(zp * vx) < BIG) := by have := GPvx.out; unfold Hid; omega
  have ex : zp * vy + -(zq * uy) = zp * vy - zq * uy := by omega
  have ey : zq * ux + -(zp * vx) = zq * ux - zp * vx := by omega
  have AX : Ab (zp * vy + -(zq * uy)) 5070602400912917605986812821504 := by rw [ex]; exact ((BP.mul AV.2).sub (BQ.mul AU.2)).le (by decide)
  have AY : Ab (zq * ux + -(zp * vx)) 5070602400912917605986812821504 := by rw [ey]; exact ((BQ.mul AU.1).sub (BP.mul AV.1)).le (by decide)
  rw [← ex, ← ey] at hpp hee
  clear wux wuy wvx wvy wux2 wuy2 wvx2 wvy2 w2x w2y hux huy hvx hvy BP BQ AU AV ex ey
  rename_i K aK
  refine aK _ _ ?_
  clear aK K
  repeat revert ‹Value›
  revert HS0
  revert hz
  revert AY
  revert AX
  revert GnPvx
  revert GPvx
  revert GQux
  revert GnQuy
  revert GQuy
  revert GPvy
  revert Gvy
  revert Gvx
  revert Guy
  revert Gux
  revert GD
  revert GQ
  revert GP
  revert Vy
  revert Vx
  revert Uy
  revert Ux
  revert W2
  revert WX
  revert hee
  revert hpp
  revert HF
  revert hK
  revert BD
  revert EZ
  revert S3
  revert S2
  revert S1
  revert wc
  revert vy
  revert vx
  revert uy
  revert ux
  revert zd
  revert zq
  revert zp
  revert c'
  revert b'
  revert g7
  revert re
  revert p
  exact hP.out⟩
end Go.Proofs.Ytojfggnimmaemaa

/-
  The walk of the law PredCentres, part 3.
-/
namespace Go.Proofs.Ytojfggnimmaemaa
open Go.RowKit

set_option maxHeartbeats 32000000 in
set_option maxRecDepth 100000 in
noncomputable def pcC (a b c : Pt) (w : World) : {P : Prop // Tail P → (pcB a b c w).val} := ⟨_, fun hP => by
  intro p re g7 b' c' zp zq zd ux uy vx vy wc S1 S2 S3 EZ BD hK HF hpp hee WX W2 Ux Uy Vx Vy GP GQ GD Gux Guy Gvx Gvy GPvy GQuy GnQuy GQux GPvx GnPvx AX AY hz HS0
  intros
  go_upto_region 6 with (fail)
  go_cut [9] (fun pv W => ∃ g9 : Nat, ∃ (m9 : Bool) (ad9 : Option Addr) (n9 c9 : Nat), pv = .pointer (some ⟨g9, 0, none⟩) ∧ (w.heap.size + 3 ≤ g9) ∧ Var W (g9) [.bool m9, .slice ad9 n9 c9] ∧ NumIs (.agg #[.bool m9, .slice ad9 n9 c9]) (zp) W ∧ (fun W => Var W (w.heap.size) [.int .i64 a.x, .int .i64 a.y] ∧ Var W (w.heap.size + 1) [.int .i64 b'.x, .int .i64 b'.y] ∧ Var W (w.heap.size + 1 + 1) [.int .i64 c'.x, .int .i64 c'.y] ∧ Var W (g7) [.int .i64 p.x, .int .i64 p.y] ∧ Grew w 3 W) W)
  case first =>
    clear hpp hee AX AY BD hz hK EZ HF
    obtain ⟨c0_, d0_⟩ := HS0.out.1.two
    obtain ⟨c1_, d1_⟩ := HS0.out.2.1.two
    obtain ⟨c2_, d2_⟩ := HS0.out.2.2.1.two
    obtain ⟨c3_, d3_⟩ := HS0.out.2.2.2.1.two
    go_wp2_with fail
    (with_reducible refine (S1.out _).mono ?_); rintro e w1 ⟨v, rfl, hN, hb1⟩
    obtain ⟨m, ad, n, c, rfl⟩ := hN.shape
    have HN := hi hN
    clear hN
    try dsimp only
    go_wp2_with fail
    go_meet
    case rel => exact ⟨_, _, _, _, _, rfl, (HS0.out.2.2.2.2.below hb1).sz, var2_new _ _ _ _ _ rfl, HN.out.below (bl_one _ _), ⟨HS0.out.1.below (bl_trans hb1 (bl_one _ _)), HS0.out.2.1.below (bl_trans hb1 (bl_one _ _)), HS0.out.2.2.1.below (bl_trans hb1 (bl_one _ _)), HS0.out.2.2.2.1.below (bl_trans hb1 (bl_one _ _)), HS0.out.2.2.2.2.below (bl_trans hb1 (bl_one _ _))⟩⟩
  case rest =>
  obtain ⟨g9, m9, ad9, n9, c9, rfl, ge9, vn, hN, hS0⟩ := hcut
  clear HS0
  have HS0 : Hid ((fun W => Var W (w.heap.size) [.int .i64 a.x, .int .i64 a.y] ∧ Var W (w.heap.size + 1) [.int .i64 b'.x, .int .i64 b'.y] ∧ Var W (w.heap.size + 1 + 1) [.int .i64 c'.x, .int .i64 c'.y] ∧ Var W (g7) [.int .i64 p.x, .int .i64 p.y] ∧ Var W (g9) [.bool m9, .slice ad9 n9 c9] ∧ NumIs (.agg #[.bool m9, .slice ad9 n9 c9]) (zp) W ∧ Grew w 3 W) _) := ⟨hS0.1, hS0.2.1, hS0.2.2.1, hS0.2.2.2.1, vn, hN, hS0.2.2.2.2⟩
  clear hS0 vn hN
  go_upto_region 7 with (fail)
  go_cut [10] (fun pv W => ∃ g10 : Nat, ∃ (m10 : Bool) (ad10 : Option Addr) (n10 c10 : Nat), pv = .pointer (some ⟨g10, 0, none⟩) ∧ (w.heap.size + 3 ≤ g10) ∧ Var W (g10) [.bool m10, .slice ad10 n10 c10] ∧ NumIs (.agg #[.bool m10, .slice ad10 n10 c10]) (zq) W ∧ (fun W => Var W (w.heap.size) [.int .i64 a.x, .int .i64 a.y] ∧ Var W (w.heap.size + 1) [.int .i64 b'.x, .int .i64 b'.y] ∧ Var W (w.heap.size + 1 + 1) [.int .i64 c'.x, .int .i64 c'.y] ∧ Var W (g7) [.int .i64 p.x, .int .i64 p.y] ∧ Var W (g9) [.bool m9, .slice ad9 n9 c9] ∧ NumIs (.agg #[.bool m9, .slice ad9 n9 c9]) (zp) W ∧ Grew w 3 W) W)
  case first =>
    clear hpp hee AX AY BD hz hK EZ HF
    obtain ⟨c0_, d0_⟩ := HS0.out.1.two
    obtain ⟨c1_, d1_⟩ := HS0.out.2.1.two
    obtain ⟨c2_, d2_⟩ := HS0.out.2.2.1.two
    obtain ⟨c3_, d3_⟩ := HS0.out.2.2.2.1.two
    obtain ⟨c4_, d4_⟩ := HS0.out.2.2.2.2.1.two
    go_wp2_with fail
    (with_reducible refine (S2.out _).mono ?_); rintro e w1 ⟨v, rfl, hN, hb1⟩
    obtain ⟨m, ad, n, c, rfl⟩ := hN.shape
    have HN := hi hN
    clear hN
    try dsimp only
    go_wp2_with fail
    go_meet
    case rel => exact ⟨_, _, _, _, _, rfl, (HS0.out.2.2.2.2.2.2.below hb1).sz, var2_new _ _ _ _ _ rfl, HN.out.below (bl_one _ _), ⟨HS0.out.1.below (bl_trans hb1 (bl_one _ _)), HS0.out.2.1.below (bl_trans hb1 (bl_one _ _)), HS0.out.2.2.1.below (bl_trans hb1 (bl_one _ _)), HS0.out.2.2.2.1.below (bl_trans hb1 (bl_one _ _)), HS0.out.2.2.2.2.1.below (bl_trans hb1 (bl_one _ _)), HS0.out.2.2.2.2.2.1.below (bl_trans hb1 (bl_one _ _)), HS0.out.2.2.2.2.2.2.below (bl_trans hb1 (bl_one _ _))⟩⟩
  case rest =>
  obtain ⟨g10, m10, ad10, n10, c10, rfl, ge10, vn, hN, hS0⟩ := hcut
  clear HS0
  have HS0 : Hid ((fun W => Var W (w.heap.size) [.int .i64 a.x, .int .i64 a.y] ∧ Var W (w.heap.size + 1) [.int .i64 b'.x, .int .i64 b'.y] ∧ Var W (w.heap.size + 1 + 1) [.int .i64 c'.x, .int .i64 c'.y] ∧ Var W (g7) [.int .i64 p.x, .int .i64 p.y] ∧ Var W (g9) [.bool m9, .slice ad9 n9 c9] ∧ Var W (g10) [.bool m10, .slice ad10 n10 c10] ∧ NumIs (.agg #[.bool m9, .slice ad9 n9 c9]) (zp) W ∧ NumIs (.agg #[.bool m10, .slice ad10 n10 c10]) (zq) W ∧ Grew w 3 W) _) := ⟨hS0.1, hS0.2.1, hS0.2.2.1, hS0.2.2.2.1, hS0.2.2.2.2.1, vn, hS0.2.2.2.2.2.1, hN, hS0.2.2.2.2.2.2⟩
  clear hS0 vn hN
  go_upto_region 8 with (fail)
  go_cut [11] (fun pv W => ∃ g11 : Nat, ∃ (m11 : Bool) (ad11 : Option Addr) (n11 c11 : Nat), pv = .pointer (some ⟨g11, 0, none⟩) ∧ (w.heap.size + 3 ≤ g11) ∧ Var W (g11) [.bool m11, .slice ad11 n11 c11] ∧ NumIs (.agg #[.bool m11, .slice ad11 n11 c11]) (zd) W ∧ (fun W => Var W (w.heap.size) [.int .i64 a.x, .int .i64 a.y] ∧ Var W (w.heap.size + 1) [.int .i64 b'.x, .int .i64 b'.y] ∧ Var W (w.heap.size + 1 + 1) [.int .i64 c'.x, .int .i64 c'.y] ∧ Var W (g7) [.int .i64 p.x, .int .i64 p.y] ∧ Var W (g9) [.bool m9, .slice ad9 n9 c9] ∧ Var W (g10) [.bool m10, .slice ad10 n10 c10] ∧ NumIs (.agg #[.bool m9, .slice ad9 n9 c9]) (zp) W ∧ NumIs (.agg #[.bool m10, .slice ad10 n10 c10]) (zq) W ∧ Grew w 3 W) W)
  case first =>
    clear hpp hee AX AY BD hz hK EZ HF
    obtain ⟨c0_, d0_⟩ := HS0.out.1.two
    obtain ⟨c1_, d1_⟩ := HS0.out.2.1.two
    obtain ⟨c2_, d2_⟩ := HS0.out.2.2.1.two
    obtain ⟨c3_, d3_⟩ := HS0.out.2.2.2.1.two
    obtain ⟨c4_, d4_⟩ := HS0.out.2.2.2.2.1.two
    obtain ⟨c5_, d5_⟩ := HS0.out.2.2.2.2.2.1.two
    go_wp2_with fail
    (with_reducible refine (S3.out _).mono ?_); rintro e w1 ⟨v, rfl, hN, hb1⟩
    obtain ⟨m, ad, n, c, rfl⟩ := hN.shape
    have HN := hi hN
    clear hN
    try dsimp only
    go_wp2_with fail
    go_meet
    case rel => exact ⟨_, _, _, _, _, rfl, (HS0.out.2.2.2.2.2.2.2.2.below hb1).sz, var2_new _ _ _ _ _ rfl, HN.out.below (bl_one _ _), ⟨HS0.out.1.below (bl_trans hb1 (bl_one _ _)), HS0.out.2.1.below (bl_trans hb1 (bl_one _ _)), HS0.out.2.2.1.below (bl_trans hb1 (bl_one _ _)), HS0.out.2.2.2.1.below (bl_trans hb1 (bl_one _ _)), HS0.out.2.2.2.2.1.below (bl_trans hb1 (bl_one _ _)), HS0.out.2.2.2.2.2.1.below (bl_trans hb1 (bl_one _ _)), HS0.out.2.2.2.2.2.2.1.below (bl_trans hb1 (bl_one _ _)), HS0.out.2.2.2.2.2.2.2.1.below (bl_trans hb1 (bl_one _ _)), HS0.out.2.2.2.2.2.2.2.2.below (bl_trans hb1 (bl_one _ _))⟩⟩
  case rest =>
  obtain ⟨g11, m11, ad11, n11, c11, rfl, ge11, vn, hN, hS0⟩ := hcut
  clear HS0
  have HS0 : Hid ((fun W => Var W (w.heap.size) [.int .i64 a.x, .int .i64 a.y] ∧ Var W (w.heap.size + 1) [.int .i64 b'.x, .int .i64 b'.y] ∧ Var W (w.heap.size + 1 + 1) [.int .i64 c'.x, .int .i64 c'.y] ∧ Var W (g7) [.int .i64 p.x, .int .i64 p.y] ∧ Var W (g9) [.bool m9, .slice ad9 n9 c9] ∧ Var W (g10) [.bool m10, .slice ad10 n10 c10] ∧ Var W (g11) [.bool m11, .slice ad11 n11 c11] ∧ NumIs (.agg #[.bool m9, .slice ad9 n9 c9]) (zp) W ∧ NumIs (.agg #[.bool m10, .slice ad10 n10 c10]) (zq) W ∧ NumIs (.agg #[.bool m11, .slice ad11 n11 c11]) (zd) W ∧ Grew w 3 W) _) := ⟨hS0.1, hS0.2.1, hS0.2.2.1, hS0.2.2.2.1, hS0.2.2.2.2.1, hS0.2.2.2.2.2.1, vn, hS0.2.2.2.2.2.2.1, hS0.2.2.2.2.2.2.2.1, hN, hS0.2.2.2.2.2.2.2.2⟩
  clear hS0 vn hN
  clear S1 S2 S3
  rename_i K aK
  refine aK _ _ ?_
  clear aK K
  repeat revert ‹Value›
  revert HS0
  revert hz
  revert AY
  revert AX
  revert GnPvx
  revert GPvx
  revert GQux
  revert GnQuy
  revert GQuy
  revert GPvy
  revert Gvy
  revert Gvx
  revert Guy
  revert Gux
  revert GD
  revert GQ
  revert GP
  revert Vy
  revert Vx
  revert Uy
  revert Ux
  revert W2
  revert WX
  revert hee
  revert hpp
  revert HF
  revert hK
  revert BD
  revert EZ
  revert ge11
  revert ge10
  revert ge9
  revert wc
  revert c11
  revert n11
  revert ad11
  revert m11
  revert g11
  revert c10
  revert n10
  revert ad10
  revert m10
  revert g10
  revert c9
  revert n9
  revert ad9
  revert m9
  revert g9
  revert vy
  revert vx
  revert uy
  revert ux
  revert zd
  revert zq
  revert zp
  revert c'
  revert b'
  revert g7
  revert re
  revert p
  exact hP.out⟩
end Go.Proofs.Ytojfggnimmaemaa
