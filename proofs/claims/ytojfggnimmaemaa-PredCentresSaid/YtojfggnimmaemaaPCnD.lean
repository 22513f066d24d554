/-
  The walk of the law PredCentres, part 4.
-/
import Derived.Test.YtojfggnimmaemaaPCnA
namespace Go.Proofs.Ytojfggnimmaemaa
open Go.RowKit

set_option maxHeartbeats 32000000 in
set_option maxRecDepth 100000 in
noncomputable def pcD (a b c : Pt) (w : World) : {P : Prop // Tail P → (pcC a b c w).val} := ⟨_, fun hP => by
  intro p re g7 b' c' zp zq zd ux uy vx vy g9 m9 ad9 n9 c9 g10 m10 ad10 n10 c10 g11 m11 ad11 n11 c11 wc ge9 ge10 ge11 EZ BD hK HF hpp hee WX W2 Ux Uy Vx Vy GP GQ GD Gux Guy Gvx Gvy GPvy GQuy GnQuy GQux GPvx GnPvx AX AY hz HS0
  intros
  go_upto_region 9 with (fail)
  go_cut [12] (fun pv W => ∃ g12 : Nat, ∃ (m12 : Bool) (ad12 : Option Addr) (n12 c12 : Nat), pv = .pointer (some ⟨g12, 0, none⟩) ∧ (w.heap.size + 3 ≤ g12) ∧ Var W (g12) [.bool m12, .slice ad12 n12 c12] ∧ NumIs (.agg #[.bool m12, .slice ad12 n12 c12]) (zp * vy + -(zq * uy)) W ∧ (fun W => Var W (w.heap.size) [.int .i64 a.x, .int .i64 a.y] ∧ Var W (w.heap.size + 1) [.int .i64 b'.x, .int .i64 b'.y] ∧ Var W (w.heap.size + 1 + 1) [.int .i64 c'.x, .int .i64 c'.y] ∧ Var W (g7) [.int .i64 p.x, .int .i64 p.y] ∧ Var W (g9) [.bool m9, .slice ad9 n9 c9] ∧ Var W (g10) [.bool m10, .slice ad10 n10 c10] ∧ Var W (g11) [.bool m11, .slice ad11 n11 c11] ∧ NumIs (.agg #[.bool m9, .slice ad9 n9 c9]) (zp) W ∧ NumIs (.agg #[.bool m10, .slice ad10 n10 c10]) (zq) W ∧ NumIs (.agg #[.bool m11, .slice ad11 n11 c11]) (zd) W ∧ Grew w 3 W) W)
  case first =>
    clear hpp hee AX AY BD hz hK EZ HF
    obtain ⟨⟨wux, wuy⟩, wvx, wvy⟩ := WX.out
    clear WX W2
    refine wp_region_bel (by kernel_rfl) (fun q1 => ?_)
    revert q1
    generalize World.drew _ = W1
    intro q1
    refine tk2 (i := 0) (v := ?_) rfl (Or.inl ⟨by rfl, ?_⟩) ?_
    rotate_left
    · intro Wq hSw
      obtain ⟨k0, k1⟩ := (HS0.out.2.2.2.2.1.below hSw).two
      clear hSw
      go_simp
      all_goals (with_reducible rfl)
    try simp only [Act.put, x2, x4, x5, x6, x7]
    refine tk2 (i := 1) (v := ?_) rfl (Or.inl ⟨by rfl, ?_⟩) ?_
    rotate_left
    · intro Wq hSw
      clear hSw
      go_simp
      all_goals (with_reducible rfl)
    try simp only [Act.put, x2, x3, x4, x5, x6, x7]
    refine tk2 (i := 2) (v := ?_) rfl (Or.inl ⟨by rfl, ?_⟩) ?_
    rotate_left
    · intro Wq hSw
      obtain ⟨k0, k1⟩ := (HS0.out.2.2.1.below hSw).two
      clear hSw
      go_simp
      all_goals (with_reducible rfl)
    try simp only [Act.put, x2, x3, x4, x5, x6, x7]
    refine tk2 (i := 3) (v := ?_) rfl (Or.inl ⟨by rfl, ?_⟩) ?_
    rotate_left
    · intro Wq hSw
      clear hSw
      go_simp
      all_goals (with_reducible rfl)
    try simp only [Act.put, x2, x3, x4, x5, x6, x7]
    refine tk2 (i := 4) (v := ?_) rfl (Or.inl ⟨by rfl, ?_⟩) ?_
    rotate_left
    · intro Wq hSw
      obtain ⟨k0, k1⟩ := (HS0.out.1.below hSw).two
      clear hSw
      go_simp
      all_goals (with_reducible rfl)
    try simp only [Act.put, x2, x3, x4, x5, x6, x7]
    refine tk2 (i := 5) (v := ?_) rfl (Or.inl ⟨by rfl, ?_⟩) ?_
    rotate_left
    · intro Wq hSw
      clear hSw
      go_simp
      all_goals (with_reducible rfl)
    try simp only [Act.put, x2, x3, x4, x5, x6, x7]
    refine tk2 (i := 8) (v := ?_) rfl (Or.inl ⟨by rfl, ?_⟩) ?_
    rotate_left
    · intro Wq hSw
      obtain ⟨k0, k1⟩ := (HS0.out.2.2.2.2.2.1.below hSw).two
      clear hSw
      go_simp
      all_goals (with_reducible rfl)
    try simp only [Act.put, x2, x3, x4, x5, x6, x7]
    refine tk2 (i := 9) (v := ?_) rfl (Or.inl ⟨by rfl, ?_⟩) ?_
    rotate_left
    · intro Wq hSw
      clear hSw
      go_simp
      all_goals (with_reducible rfl)
    try simp only [Act.put, x2, x3, x4, x5, x6, x7]
    refine tk2 (i := 10) (v := ?_) rfl (Or.inl ⟨by rfl, ?_⟩) ?_
    rotate_left
    · intro Wq hSw
      obtain ⟨k0, k1⟩ := (HS0.out.2.1.below hSw).two
      clear hSw
      go_simp
      all_goals (with_reducible rfl)
    try simp only [Act.put, x2, x3, x4, x5, x6, x7]
    refine tk2 (i := 11) (v := ?_) rfl (Or.inl ⟨by rfl, ?_⟩) ?_
    rotate_left
    · intro Wq hSw
      clear hSw
      go_simp
      all_goals (with_reducible rfl)
    try simp only [Act.put, x2, x3, x4, x5, x6, x7]
    refine tk2 (i := 12) (v := ?_) rfl (Or.inl ⟨by rfl, ?_⟩) ?_
    rotate_left
    · intro Wq hSw
      obtain ⟨k0, k1⟩ := (HS0.out.1.below hSw).two
      clear hSw
      go_simp
      all_goals (with_reducible rfl)
    try simp only [Act.put, x2, x3, x4, x5, x6, x7]
    refine tk2 (i := 13) (v := ?_) rfl (Or.inl ⟨by rfl, ?_⟩) ?_
    rotate_left
    · intro Wq hSw
      clear hSw
      go_simp
      all_goals (with_reducible rfl)
    try simp only [Act.put, x2, x3, x4, x5, x6, x7]
    refine ry2 (i := 6) (j := 18) rfl (fun K hK => ?_) rfl (fun K hK => ?_)
    ·go_simp
     go_at_call 37
     (with_reducible refine (small_num vy Vy.out.1 Vy.out.2 _).mono ?_); rintro e w1 ⟨va, rfl, hNa, hb1⟩
     obtain ⟨ma, ada, na, ca, rfl⟩ := hNa.shape
     have HNa := hi hNa
     clear hNa
     go_wp2_with fail
     refine hK.out _ _ (bl_trans q1 hb1) (fun q2 => ?_)
     clear hK K q1 hb1
     have q1 := q2
     clear q2
     try simp only [Act.put, x2, x3, x4, x5, x6, x7]
     refine ry2 (i := 7) (j := 18) rfl (fun K hK => ?_) rfl (fun K hK => ?_)
     ·go_simp
      go_at_call 36
      (with_reducible refine (times_num _ _ zp vy _ (HS0.out.2.2.2.2.2.2.2.1.below q1) HNa.out GP.out Gvy.out).mono ?_); rintro e w1 ⟨vb, rfl, hNb, hb1⟩
      obtain ⟨mb, adb, nb, cb, rfl⟩ := hNb.shape
      have HNb := hi hNb
      clear hNb
      go_wp2_with fail
      refine hK.out _ _ (bl_trans q1 hb1) (fun q2 => ?_)
      clear hK K q1 hb1
      have q1 := q2
      clear q2
      try simp only [Act.put, x2, x3, x4, x5, x6, x7]
      refine ry2 (i := 14) (j := 18) rfl (fun K hK => ?_) rfl (fun K hK => ?_)
      ·go_simp
       go_at_call 37
       (with_reducible refine (small_num uy Uy.out.1 Uy.out.2 _).mono ?_); rintro e w1 ⟨vc, rfl, hNc, hb1⟩
       obtain ⟨mc, adc, nc, cc, rfl⟩ := hNc.shape
       have HNc := hi hNc
       clear hNc
       go_wp2_with fail
       refine hK.out _ _ (bl_trans q1 hb1) (fun q2 => ?_)
       replace HNb := hi (HNb.out.below hb1)
       clear hK K q1 hb1
       have q1 := q2
       clear q2
       try simp only [Act.put, x2, x3, x4, x5, x6, x7]
       refine ry2 (i := 15) (j := 18) rfl (fun K hK => ?_) rfl (fun K hK => ?_)
       ·go_simp
        go_at_call 36
        (with_reducible refine (times_num _ _ zq uy _ (HS0.out.2.2.2.2.2.2.2.2.1.below q1) HNc.out GQ.out Guy.out).mono ?_); rintro e w1 ⟨vd, rfl, hNd, hb1⟩
        obtain ⟨md, add, nd, cd, rfl⟩ := hNd.shape
        have HNd := hi hNd
        clear hNd
        go_wp2_with fail
        refine hK.out _ _ (bl_trans q1 hb1) (fun q2 => ?_)
        replace HNb := hi (HNb.out.below hb1)
        clear hK K q1 hb1
        have q1 := q2
        clear q2
        try simp only [Act.put, x2, x3, x4, x5, x6, x7]
        refine ry2 (i := 16) (j := 18) rfl (fun K hK => ?_) rfl (fun K hK => ?_)
        ·go_simp
         go_at_call 39
         (with_reducible refine (neg_num _ (zq * uy) _ HNd.out).mono ?_); rintro e w1 ⟨ve, rfl, hNe, hb1⟩
         obtain ⟨me, ade, ne, ce, rfl⟩ := hNe.shape
         have HNe := hi hNe
         clear hNe
         go_wp2_with fail
         refine hK.out _ _ (bl_trans q1 hb1) (fun q2 => ?_)
         replace HNb := hi (HNb.out.below hb1)
         clear hK K q1 hb1
         have q1 := q2
         clear q2
         try simp only [Act.put, x2, x3, x4, x5, x6, x7]
         refine ry2 (i := 17) (j := 18) rfl (fun K hK => ?_) rfl (fun K hK => ?_)
         ·go_simp
          go_at_call 38
          (with_reducible refine (plus_c _ _ (zp * vy) (-(zq * uy)) _ HNb.out HNe.out GPvy.out GnQuy.out).mono ?_); rintro e w1 ⟨vf, rfl, hNf, hb1⟩
          obtain ⟨mf, adf, nf, cf, rfl⟩ := hNf.shape
          have HNf := hi hNf
          clear hNf
          go_wp2_with fail
          refine hK.out _ _ (bl_trans q1 hb1) (fun q2 => ?_)
          clear hK K q1 hb1
          have q1 := q2
          clear q2
          try simp only [Act.put, x2, x3, x4, x5, x6, x7]
          refine ry1 (i := 18) rfl (fun K hK => ?_)
          go_simp
          refine hK.out _ _ (bel_one q1 _) (fun q2 => ?_)
          replace HNf := hi (HNf.out.below (bel_al q2 (bl_one _ _)))
          have hgeHX := q1.size
          have HX := hi (bel_var2 q1 (.bool false) (.slice none 0 0) 42)
          clear hK K q1
          have q1 := q2
          clear q2
          try simp only [Act.put, x2, x3, x4, x5, x6, x7]
          revert HNf
          revert HX
          revert q1
          generalize World.alloc _ _ = W2
          intro q1 HX HNf
          refine ry1 (i := 19) rfl (fun K hK => ?_)
          obtain ⟨k0, k1⟩ := HX.out.two
          obtain ⟨f0, f1⟩ := HX.out.free2
          go_simp
          refine hK.out _ _ (bel_set2 q1 hgeHX hgeHX _ _) (fun q2 => ?_)
          replace HNf := hi (HNf.out.res HX.out (mf) (.slice adf nf cf))
          replace HX := hi (HX.out.set2 (.bool mf) (.slice adf nf cf))
          clear hK K q1 k0 k1 f0 f1
          have q1 := q2
          clear q2
          try simp only [x5, x6, x7]
          refine wpAnyH_done (by kernel_rfl) ?_ _
          go_wp2_with fail
          go_meet
          case rel => exact ⟨_, _, _, _, _, rfl, Nat.le_trans (by have := HS0.out.2.2.2.2.2.2.2.2.2.2.sz; exact this) hgeHX, HX.out, HNf.out, ⟨HS0.out.1.below q1, HS0.out.2.1.below q1, HS0.out.2.2.1.below q1, HS0.out.2.2.2.1.below q1, HS0.out.2.2.2.2.1.below q1, HS0.out.2.2.2.2.2.1.below q1, HS0.out.2.2.2.2.2.2.1.below q1, HS0.out.2.2.2.2.2.2.2.1.below q1, HS0.out.2.2.2.2.2.2.2.2.1.below q1, HS0.out.2.2.2.2.2.2.2.2.2.1.below q1, HS0.out.2.2.2.2.2.2.2.2.2.2.below q1⟩⟩
         ·go_simp
          refine hK.out _ _ (bel_one q1 _) (fun q2 => ?_)
          replace HNb := hi (HNb.out.below (bel_al q2 (bl_one _ _)))
          replace HNe := hi (HNe.out.below (bel_al q2 (bl_one _ _)))
          have hgeHX := q1.size
          have HX := hi (bel_var2 q1 (.bool false) (.slice none 0 0) 42)
          clear hK K q1
          have q1 := q2
          clear q2
          try simp only [Act.put, x2, x3, x4, x5, x6, x7]
          revert HNb
          revert HNe
          revert HX
          revert q1
          generalize World.alloc _ _ = W2
          intro q1 HX HNe HNb
          refine ry1 (i := 17) rfl (fun K hK => ?_)
          go_simp
          go_at_call 38
          (with_reducible refine (plus_c _ _ (zp * vy) (-(zq * uy)) _ HNb.out HNe.out GPvy.out GnQuy.out).mono ?_); rintro e w1 ⟨vf, rfl, hNf, hb1⟩
          obtain ⟨mf, adf, nf, cf, rfl⟩ := hNf.shape
          have HNf := hi hNf
          clear hNf
          go_wp2_with fail
          refine hK.out _ _ (bl_trans q1 hb1) (fun q2 => ?_)
          replace HX := hi (HX.out.below hb1)
          clear hK K q1 hb1
          have q1 := q2
          clear q2
          try simp only [Act.put, x2, x3, x4, x5, x6, x7]
          refine ry1 (i := 19) rfl (fun K hK => ?_)
          obtain ⟨k0, k1⟩ := HX.out.two
          obtain ⟨f0, f1⟩ := HX.out.free2
          go_simp
          refine hK.out _ _ (bel_set2 q1 hgeHX hgeHX _ _) (fun q2 => ?_)
          replace HNf := hi (HNf.out.res HX.out (mf) (.slice adf nf cf))
          replace HX := hi (HX.out.set2 (.bool mf) (.slice adf nf cf))
          clear hK K q1 k0 k1 f0 f1
          have q1 := q2
          clear q2
          try simp only [x5, x6, x7]
          refine wpAnyH_done (by kernel_rfl) ?_ _
          go_wp2_with fail
          go_meet
          case rel => exact ⟨_, _, _, _, _, rfl, Nat.le_trans (by have := HS0.out.2.2.2.2.2.2.2.2.2.2.sz; exact this) hgeHX, HX.out, HNf.out, ⟨HS0.out.1.below q1, HS0.out.2.1.below q1, HS0.out.2.2.1.below q1, HS0.out.2.2.2.1.below q1, HS0.out.2.2.2.2.1.below q1, HS0.out.2.2.2.2.2.1.below q1, HS0.out.2.2.2.2.2.2.1.below q1, HS0.out.2.2.2.2.2.2.2.1.below q1, HS0.out.2.2.2.2.2.2.2.2.1.below q1, HS0.out.2.2.2.2.2.2.2.2.2.1.below q1, HS0.out.2.2.2.2.2.2.2.2.2.2.below q1⟩⟩
        ·go_simp
         refine hK.out _ _ (bel_one q1 _) (fun q2 => ?_)
         replace HNb := hi (HNb.out.below (bel_al q2 (bl_one _ _)))
         replace HNd := hi (HNd.out.below (bel_al q2 (bl_one _ _)))
         have hgeHX := q1.size
         have HX := hi (bel_var2 q1 (.bool false) (.slice none 0 0) 42)
         clear hK K q1
         have q1 := q2
         clear q2
         try simp only [Act.put, x2, x3, x4, x5, x6, x7]
         revert HNb
         revert HNd
         revert HX
         revert q1
         generalize World.alloc _ _ = W2
         intro q1 HX HNd HNb
         refine ry1 (i := 16) rfl (fun K hK => ?_)
         go_simp
         go_at_call 39
         (with_reducible refine (neg_num _ (zq * uy) _ HNd.out).mono ?_); rintro e w1 ⟨ve, rfl, hNe, hb1⟩
         obtain ⟨me, ade, ne, ce, rfl⟩ := hNe.shape
         have HNe := hi hNe
         clear hNe
         go_wp2_with fail
         refine hK.out _ _ (bl_trans q1 hb1) (fun q2 => ?_)
         replace HNb := hi (HNb.out.below hb1)
         replace HX := hi (HX.out.below hb1)
         clear hK K q1 hb1
         have q1 := q2
         clear q2
         try simp only [Act.put, x2, x3, x4, x5, x6, x7]
         refine ry1 (i := 17) rfl (fun K hK => ?_)
         go_simp
         go_at_call 38
         (with_reducible refine (plus_c _ _ (zp * vy) (-(zq * uy)) _ HNb.out HNe.out GPvy.out GnQuy.out).mono ?_); rintro e w1 ⟨vf, rfl, hNf, hb1⟩
         obtain ⟨mf, adf, nf, cf, rfl⟩ := hNf.shape
         have HNf := hi hNf
         clear hNf
         go_wp2_with fail
         refine hK.out _ _ (bl_trans q1 hb1) (fun q2 => ?_)
         replace HX := hi (HX.out.below hb1)
         clear hK K q1 hb1
         have q1 := q2
         clear q2
         try simp only [Act.put, x2, x3, x4, x5, x6, x7]
         refine ry1 (i := 19) rfl (fun K hK => ?_)
         obtain ⟨k0, k1⟩ := HX.out.two
         obtain ⟨f0, f1⟩ := HX.out.free2
         go_simp
         refine hK.out _ _ (bel_set2 q1 hgeHX hgeHX _ _) (fun q2 => ?_)
         replace HNf := hi (HNf.out.res HX.out (mf) (.slice adf nf cf))
         replace HX := hi (HX.out.set2 (.bool mf) (.slice adf nf cf))
         clear hK K q1 k0 k1 f0 f1
         have q1 := q2
         clear q2
         try simp only [x5, x6, x7]
         refine wpAnyH_done (by kernel_rfl) ?_ _
         go_wp2_with fail
         go_meet
         case rel => exact ⟨_, _, _, _, _, rfl, Nat.le_trans (by have := HS0.out.2.2.2.2.2.2.2.2.2.2.sz; exact this) hgeHX, HX.out, HNf.out, ⟨HS0.out.1.below q1, HS0.out.2.1.below q1, HS0.out.2.2.1.below q1, HS0.out.2.2.2.1.below q1, HS0.out.2.2.2.2.1.below q1, HS0.out.2.2.2.2.2.1.below q1, HS0.out.2.2.2.2.2.2.1.below q1, HS0.out.2.2.2.2.2.2.2.1.below q1, HS0.out.2.2.2.2.2.2.2.2.1.below q1, HS0.out.2.2.2.2.2.2.2.2.2.1.below q1, HS0.out.2.2.2.2.2.2.2.2.2.2.below q1⟩⟩
       ·go_simp
        refine hK.out _ _ (bel_one q1 _) (fun q2 => ?_)
        replace HNb := hi (HNb.out.below (bel_al q2 (bl_one _ _)))
        replace HNc := hi (HNc.out.below (bel_al q2 (bl_one _ _)))
        have hgeHX := q1.size
        have HX := hi (bel_var2 q1 (.bool false) (.slice none 0 0) 42)
        clear hK K q1
        have q1 := q2
        clear q2
        try simp only [Act.put, x2, x3, x4, x5, x6, x7]
        revert HNb
        revert HNc
        revert HX
        revert q1
        generalize World.alloc _ _ = W2
        intro q1 HX HNc HNb
        refine ry1 (i := 15) rfl (fun K hK => ?_)
        go_simp
        go_at_call 36
        (with_reducible refine (times_num _ _ zq uy _ (HS0.out.2.2.2.2.2.2.2.2.1.below q1) HNc.out GQ.out Guy.out).mono ?_); rintro e w1 ⟨vd, rfl, hNd, hb1⟩
        obtain ⟨md, add, nd, cd, rfl⟩ := hNd.shape
        have HNd := hi hNd
        clear hNd
        go_wp2_with fail
        refine hK.out _ _ (bl_trans q1 hb1) (fun q2 => ?_)
        replace HNb := hi (HNb.out.below hb1)
        replace HX := hi (HX.out.below hb1)
        clear hK K q1 hb1
        have q1 := q2
        clear q2
        try simp only [Act.put, x2, x3, x4, x5, x6, x7]
        refine ry1 (i := 16) rfl (fun K hK => ?_)
        go_simp
        go_at_call 39
        (with_reducible refine (neg_num _ (zq * uy) _ HNd.out).mono ?_); rintro e w1 ⟨ve, rfl, hNe, hb1⟩
        obtain ⟨me, ade, ne, ce, rfl⟩ := hNe.shape
        have HNe := hi hNe
        clear hNe
        go_wp2_with fail
        refine hK.out _ _ (bl_trans q1 hb1) (fun q2 => ?_)
        replace HNb := hi (HNb.out.below hb1)
        replace HX := hi (HX.out.below hb1)
        clear hK K q1 hb1
        have q1 := q2
        clear q2
        try simp only [Act.put, x2, x3, x4, x5, x6, x7]
        refine ry1 (i := 17) rfl (fun K hK => ?_)
        go_simp
        go_at_call 38
        (with_reducible refine (plus_c _ _ (zp * vy) (-(zq * uy)) _ HNb.out HNe.out GPvy.out GnQuy.out).mono ?_); rintro e w1 ⟨vf, rfl, hNf, hb1⟩
        obtain ⟨mf, adf, nf, cf, rfl⟩ := hNf.shape
        have HNf := hi hNf
        clear hNf
        go_wp2_with fail
        refine hK.out _ _ (bl_trans q1 hb1) (fun q2 => ?_)
        replace HX := hi (HX.out.below hb1)
        clear hK K q1 hb1
        have q1 := q2
        clear q2
        try simp only [Act.put, x2, x3, x4, x5, x6, x7]
        refine ry1 (i := 19) rfl (fun K hK => ?_)
        obtain ⟨k0, k1⟩ := HX.out.two
        obtain ⟨f0, f1⟩ := HX.out.free2
        go_simp
        refine hK.out _ _ (bel_set2 q1 hgeHX hgeHX _ _) (fun q2 => ?_)
        replace HNf := hi (HNf.out.res HX.out (mf) (.slice adf nf cf))
        replace HX := hi (HX.out.set2 (.bool mf) (.slice adf nf cf))
        clear hK K q1 k0 k1 f0 f1
        have q1 := q2
        clear q2
        try simp only [x5, x6, x7]
        refine wpAnyH_done (by kernel_rfl) ?_ _
        go_wp2_with fail
        go_meet
        case rel => exact ⟨_, _, _, _, _, rfl, Nat.le_trans (by have := HS0.out.2.2.2.2.2.2.2.2.2.2.sz; exact this) hgeHX, HX.out, HNf.out, ⟨HS0.out.1.below q1, HS0.out.2.1.below q1, HS0.out.2.2.1.below q1, HS0.out.2.2.2.1.below q1, HS0.out.2.2.2.2.1.below q1, HS0.out.2.2.2.2.2.1.below q1, HS0.out.2.2.2.2.2.2.1.below q1, HS0.out.2.2.2.2.2.2.2.1.below q1, HS0.out.2.2.2.2.2.2.2.2.1.below q1, HS0.out.2.2.2.2.2.2.2.2.2.1.below q1, HS0.out.2.2.2.2.2.2.2.2.2.2.below q1⟩⟩
      ·go_simp
       refine hK.out _ _ (bel_one q1 _) (fun q2 => ?_)
       replace HNb := hi (HNb.out.below (bel_al q2 (bl_one _ _)))
       have hgeHX := q1.size
       have HX := hi (bel_var2 q1 (.bool false) (.slice none 0 0) 42)
       clear hK K q1
       have q1 := q2
       clear q2
       try simp only [Act.put, x2, x3, x4, x5, x6, x7]
       revert HNb
       revert HX
       revert q1
       generalize World.alloc _ _ = W2
       intro q1 HX HNb
       refine ry1 (i := 14) rfl (fun K hK => ?_)
       go_simp
       go_at_call 37
       (with_reducible refine (small_num uy Uy.out.1 Uy.out.2 _).mono ?_); rintro e w1 ⟨vc, rfl, hNc, hb1⟩
       obtain ⟨mc, adc, nc, cc, rfl⟩ := hNc.shape
       have HNc := hi hNc
       clear hNc
       go_wp2_with fail
       refine hK.out _ _ (bl_trans q1 hb1) (fun q2 => ?_)
       replace HNb := hi (HNb.out.below hb1)
       replace HX := hi (HX.out.below hb1)
       clear hK K q1 hb1
       have q1 := q2
       clear q2
       try simp only [Act.put, x2, x3, x4, x5, x6, x7]
       refine ry1 (i := 15) rfl (fun K hK => ?_)
       go_simp
       go_at_call 36
       (with_reducible refine (times_num _ _ zq uy _ (HS0.out.2.2.2.2.2.2.2.2.1.below q1) HNc.out GQ.out Guy.out).mono ?_); rintro e w1 ⟨vd, rfl, hNd, hb1⟩
       obtain ⟨md, add, nd, cd, rfl⟩ := hNd.shape
       have HNd := hi hNd
       clear hNd
       go_wp2_with fail
       refine hK.out _ _ (bl_trans q1 hb1) (fun q2 => ?_)
       replace HNb := hi (HNb.out.below hb1)
       replace HX := hi (HX.out.below hb1)
       clear hK K q1 hb1
       have q1 := q2
       clear q2
       try simp only [Act.put, x2, x3, x4, x5, x6, x7]
       refine ry1 (i := 16) rfl (fun K hK => ?_)
       go_simp
       go_at_call 39
       (with_reducible refine (neg_num _ (zq * uy) _ HNd.out).mono ?_); rintro e w1 ⟨ve, rfl, hNe, hb1⟩
       obtain ⟨me, ade, ne, ce, rfl⟩ := hNe.shape
       have HNe := hi hNe
       clear hNe
       go_wp2_with fail
       refine hK.out _ _ (bl_trans q1 hb1) (fun q2 => ?_)
       replace HNb := hi (HNb.out.below hb1)
       replace HX := hi (HX.out.below hb1)
       clear hK K q1 hb1
       have q1 := q2
       clear q2
       try simp only [Act.put, x2, x3, x4, x5, x6, x7]
       refine ry1 (i := 17) rfl (fun K hK => ?_)
       go_simp
       go_at_call 38
       (with_reducible refine (plus_c _ _ (zp * vy) (-(zq * uy)) _ HNb.out HNe.out GPvy.out GnQuy.out).mono ?_); rintro e w1 ⟨vf, rfl, hNf, hb1⟩
       obtain ⟨mf, adf, nf, cf, rfl⟩ := hNf.shape
       have HNf := hi hNf
       clear hNf
       go_wp2_with fail
       refine hK.out _ _ (bl_trans q1 hb1) (fun q2 => ?_)
       replace HX := hi (HX.out.below hb1)
       clear hK K q1 hb1
       have q1 := q2
       clear q2
       try simp only [Act.put, x2, x3, x4, x5, x6, x7]
       refine ry1 (i := 19) rfl (fun K hK => ?_)
       obtain ⟨k0, k1⟩ := HX.out.two
       obtain ⟨f0, f1⟩ := HX.out.free2
       go_simp
       refine hK.out _ _ (bel_set2 q1 hgeHX hgeHX _ _) (fun q2 => ?_)
       replace HNf := hi (HNf.out.res HX.out (mf) (.slice adf nf cf))
       replace HX := hi (HX.out.set2 (.bool mf) (.slice adf nf cf))
       clear hK K q1 k0 k1 f0 f1
       have q1 := q2
       clear q2
       try simp only [x5, x6, x7]
       refine wpAnyH_done (by kernel_rfl) ?_ _
       go_wp2_with fail
       go_meet
       case rel => exact ⟨_, _, _, _, _, rfl, Nat.le_trans (by have := HS0.out.2.2.2.2.2.2.2.2.2.2.sz; exact this) hgeHX, HX.out, HNf.out, ⟨HS0.out.1.below q1, HS0.out.2.1.below q1, HS0.out.2.2.1.below q1, HS0.out.2.2.2.1.below q1, HS0.out.2.2.2.2.1.below q1, HS0.out.2.2.2.2.2.1.below q1, HS0.out.2.2.2.2.2.2.1.below q1, HS0.out.2.2.2.2.2.2.2.1.below q1, HS0.out.2.2.2.2.2.2.2.2.1.below q1, HS0.out.2.2.2.2.2.2.2.2.2.1.below q1, HS0.out.2.2.2.2.2.2.2.2.2.2.below q1⟩⟩
     ·go_simp
      refine hK.out _ _ (bel_one q1 _) (fun q2 => ?_)
      replace HNa := hi (HNa.out.below (bel_al q2 (bl_one _ _)))
      have hgeHX := q1.size
      have HX := hi (bel_var2 q1 (.bool false) (.slice none 0 0) 42)
      clear hK K q1
      have q1 := q2
      clear q2
      try simp only [Act.put, x2, x3, x4, x5, x6, x7]
      revert HNa
      revert HX
      revert q1
      generalize World.alloc _ _ = W2
      intro q1 HX HNa
      refine ry1 (i := 7) rfl (fun K hK => ?_)
      go_simp
      go_at_call 36
      (with_reducible refine (times_num _ _ zp vy _ (HS0.out.2.2.2.2.2.2.2.1.below q1) HNa.out GP.out Gvy.out).mono ?_); rintro e w1 ⟨vb, rfl, hNb, hb1⟩
      obtain ⟨mb, adb, nb, cb, rfl⟩ := hNb.shape
      have HNb := hi hNb
      clear hNb
      go_wp2_with fail
      refine hK.out _ _ (bl_trans q1 hb1) (fun q2 => ?_)
      replace HX := hi (HX.out.below hb1)
      clear hK K q1 hb1
      have q1 := q2
      clear q2
      try simp only [Act.put, x2, x3, x4, x5, x6, x7]
      refine ry1 (i := 14) rfl (fun K hK => ?_)
      go_simp
      go_at_call 37
      (with_reducible refine (small_num uy Uy.out.1 Uy.out.2 _).mono ?_); rintro e w1 ⟨vc, rfl, hNc, hb1⟩
      obtain ⟨mc, adc, nc, cc, rfl⟩ := hNc.shape
      have HNc := hi hNc
      clear hNc
      go_wp2_with fail
      refine hK.out _ _ (bl_trans q1 hb1) (fun q2 => ?_)
      replace HX := hi (HX.out.below hb1)
      replace HNb := hi (HNb.out.below hb1)
      clear hK K q1 hb1
      have q1 := q2
      clear q2
      try simp only [Act.put, x2, x3, x4, x5, x6, x7]
      refine ry1 (i := 15) rfl (fun K hK => ?_)
      go_simp
      go_at_call 36
      (with_reducible refine (times_num _ _ zq uy _ (HS0.out.2.2.2.2.2.2.2.2.1.below q1) HNc.out GQ.out Guy.out).mono ?_); rintro e w1 ⟨vd, rfl, hNd, hb1⟩
      obtain ⟨md, add, nd, cd, rfl⟩ := hNd.shape
      have HNd := hi hNd
      clear hNd
      go_wp2_with fail
      refine hK.out _ _ (bl_trans q1 hb1) (fun q2 => ?_)
      replace HX := hi (HX.out.below hb1)
      replace HNb := hi (HNb.out.below hb1)
      clear hK K q1 hb1
      have q1 := q2
      clear q2
      try simp only [Act.put, x2, x3, x4, x5, x6, x7]
      refine ry1 (i := 16) rfl (fun K hK => ?_)
      go_simp
      go_at_call 39
      (with_reducible refine (neg_num _ (zq * uy) _ HNd.out).mono ?_); rintro e w1 ⟨ve, rfl, hNe, hb1⟩
      obtain ⟨me, ade, ne, ce, rfl⟩ := hNe.shape
      have HNe := hi hNe
      clear hNe
      go_wp2_with fail
      refine hK.out _ _ (bl_trans q1 hb1) (fun q2 => ?_)
      replace HX := hi (HX.out.below hb1)
      replace HNb := hi (HNb.out.below hb1)
      clear hK K q1 hb1
      have q1 := q2
      clear q2
      try simp only [Act.put, x2, x3, x4, x5, x6, x7]
      refine ry1 (i := 17) rfl (fun K hK => ?_)
      go_simp
      go_at_call 38
      (with_reducible refine (plus_c _ _ (zp * vy) (-(zq * uy)) _ HNb.out HNe.out GPvy.out GnQuy.out).mono ?_); rintro e w1 ⟨vf, rfl, hNf, hb1⟩
      obtain ⟨mf, adf, nf, cf, rfl⟩ := hNf.shape
      have HNf := hi hNf
      clear hNf
      go_wp2_with fail
      refine hK.out _ _ (bl_trans q1 hb1) (fun q2 => ?_)
      replace HX := hi (HX.out.below hb1)
      clear hK K q1 hb1
      have q1 := q2
      clear q2
      try simp only [Act.put, x2, x3, x4, x5, x6, x7]
      refine ry1 (i := 19) rfl (fun K hK => ?_)
      obtain ⟨k0, k1⟩ := HX.out.two
      obtain ⟨f0, f1⟩ := HX.out.free2
      go_simp
      refine hK.out _ _ (bel_set2 q1 hgeHX hgeHX _ _) (fun q2 => ?_)
      replace HNf := hi (HNf.out.res HX.out (mf) (.slice adf nf cf))
      replace HX := hi (HX.out.set2 (.bool mf) (.slice adf nf cf))
      clear hK K q1 k0 k1 f0 f1
      have q1 := q2
      clear q2
      try simp only [x5, x6, x7]
      refine wpAnyH_done (by kernel_rfl) ?_ _
      go_wp2_with fail
      go_meet
      case rel => exact ⟨_, _, _, _, _, rfl, Nat.le_trans (by have := HS0.out.2.2.2.2.2.2.2.2.2.2.sz; exact this) hgeHX, HX.out, HNf.out, ⟨HS0.out.1.below q1, HS0.out.2.1.below q1, HS0.out.2.2.1.below q1, HS0.out.2.2.2.1.below q1, HS0.out.2.2.2.2.1.below q1, HS0.out.2.2.2.2.2.1.below q1, HS0.out.2.2.2.2.2.2.1.below q1, HS0.out.2.2.2.2.2.2.2.1.below q1, HS0.out.2.2.2.2.2.2.2.2.1.below q1, HS0.out.2.2.2.2.2.2.2.2.2.1.below q1, HS0.out.2.2.2.2.2.2.2.2.2.2.below q1⟩⟩
    ·go_simp
     refine hK.out _ _ (bel_one q1 _) (fun q2 => ?_)
     have hgeHX := q1.size
     have HX := hi (bel_var2 q1 (.bool false) (.slice none 0 0) 42)
     clear hK K q1
     have q1 := q2
     clear q2
     try simp only [Act.put, x2, x3, x4, x5, x6, x7]
     revert HX
     revert q1
     generalize World.alloc _ _ = W2
     intro q1 HX
     refine ry1 (i := 6) rfl (fun K hK => ?_)
     go_simp
     go_at_call 37
     (with_reducible refine (small_num vy Vy.out.1 Vy.out.2 _).mono ?_); rintro e w1 ⟨va, rfl, hNa, hb1⟩
     obtain ⟨ma, ada, na, ca, rfl⟩ := hNa.shape
     have HNa := hi hNa
     clear hNa
     go_wp2_with fail
     refine hK.out _ _ (bl_trans q1 hb1) (fun q2 => ?_)
     replace HX := hi (HX.out.below hb1)
     clear hK K q1 hb1
     have q1 := q2
     clear q2
     try simp only [Act.put, x2, x3, x4, x5, x6, x7]
     refine ry1 (i := 7) rfl (fun K hK => ?_)
     go_simp
     go_at_call 36
     (with_reducible refine (times_num _ _ zp vy _ (HS0.out.2.2.2.2.2.2.2.1.below q1) HNa.out GP.out Gvy.out).mono ?_); rintro e w1 ⟨vb, rfl, hNb, hb1⟩
     obtain ⟨mb, adb, nb, cb, rfl⟩ := hNb.shape
     have HNb := hi hNb
     clear hNb
     go_wp2_with fail
     refine hK.out _ _ (bl_trans q1 hb1) (fun q2 => ?_)
     replace HX := hi (HX.out.below hb1)
     clear hK K q1 hb1
     have q1 := q2
     clear q2
     try simp only [Act.put, x2, x3, x4, x5, x6, x7]
     refine ry1 (i := 14) rfl (fun K hK => ?_)
     go_simp
     go_at_call 37
     (with_reducible refine (small_num uy Uy.out.1 Uy.out.2 _).mono ?_); rintro e w1 ⟨vc, rfl, hNc, hb1⟩
     obtain ⟨mc, adc, nc, cc, rfl⟩ := hNc.shape
     have HNc := hi hNc
     clear hNc
     go_wp2_with fail
     refine hK.out _ _ (bl_trans q1 hb1) (fun q2 => ?_)
     replace HX := hi (HX.out.below hb1)
     replace HNb := hi (HNb.out.below hb1)
     clear hK K q1 hb1
     have q1 := q2
     clear q2
     try simp only [Act.put, x2, x3, x4, x5, x6, x7]
     refine ry1 (i := 15) rfl (fun K hK => ?_)
     go_simp
     go_at_call 36
     (with_reducible refine (times_num _ _ zq uy _ (HS0.out.2.2.2.2.2.2.2.2.1.below q1) HNc.out GQ.out Guy.out).mono ?_); rintro e w1 ⟨vd, rfl, hNd, hb1⟩
     obtain ⟨md, add, nd, cd, rfl⟩ := hNd.shape
     have HNd := hi hNd
     clear hNd
     go_wp2_with fail
     refine hK.out _ _ (bl_trans q1 hb1) (fun q2 => ?_)
     replace HX := hi (HX.out.below hb1)
     replace HNb := hi (HNb.out.below hb1)
     clear hK K q1 hb1
     have q1 := q2
     clear q2
     try simp only [Act.put, x2, x3, x4, x5, x6, x7]
     refine ry1 (i := 16) rfl (fun K hK => ?_)
     go_simp
     go_at_call 39
     (with_reducible refine (neg_num _ (zq * uy) _ HNd.out).mono ?_); rintro e w1 ⟨ve, rfl, hNe, hb1⟩
     obtain ⟨me, ade, ne, ce, rfl⟩ := hNe.shape
     have HNe := hi hNe
     clear hNe
     go_wp2_with fail
     refine hK.out _ _ (bl_trans q1 hb1) (fun q2 => ?_)
     replace HX := hi (HX.out.below hb1)
     replace HNb := hi (HNb.out.below hb1)
     clear hK K q1 hb1
     have q1 := q2
     clear q2
     try simp only [Act.put, x2, x3, x4, x5, x6, x7]
     refine ry1 (i := 17) rfl (fun K hK => ?_)
     go_simp
     go_at_call 38
     (with_reducible refine (plus_c _ _ (zp * vy) (-(zq * uy)) _ HNb.out HNe.out GPvy.out GnQuy.out).mono ?_); rintro e w1 ⟨vf, rfl, hNf, hb1⟩
     obtain ⟨mf, adf, nf, cf, rfl⟩ := hNf.shape
     have HNf := hi hNf
     clear hNf
     go_wp2_with fail
     refine hK.out _ _ (bl_trans q1 hb1) (fun q2 => ?_)
     replace HX := hi (HX.out.below hb1)
     clear hK K q1 hb1
     have q1 := q2
     clear q2
     try simp only [Act.put, x2, x3, x4, x5, x6, x7]
     refine ry1 (i := 19) rfl (fun K hK => ?_)
     obtain ⟨k0, k1⟩ := HX.out.two
     obtain ⟨f0, f1⟩ := HX.out.free2
     go_simp
     refine hK.out _ _ (bel_set2 q1 hgeHX hgeHX _ _) (fun q2 => ?_)
     replace HNf := hi (HNf.out.res HX.out (mf) (.slice adf nf cf))
     replace HX := hi (HX.out.set2 (.bool mf) (.slice adf nf cf))
     clear hK K q1 k0 k1 f0 f1
     have q1 := q2
     clear q2
     try simp only [x5, x6, x7]
     refine wpAnyH_done (by kernel_rfl) ?_ _
     go_wp2_with fail
     go_meet
     case rel => exact ⟨_, _, _, _, _, rfl, Nat.le_trans (by have := HS0.out.2.2.2.2.2.2.2.2.2.2.sz; exact this) hgeHX, HX.out, HNf.out, ⟨HS0.out.1.below q1, HS0.out.2.1.below q1, HS0.out.2.2.1.below q1, HS0.out.2.2.2.1.below q1, HS0.out.2.2.2.2.1.below q1, HS0.out.2.2.2.2.2.1.below q1, HS0.out.2.2.2.2.2.2.1.below q1, HS0.out.2.2.2.2.2.2.2.1.below q1, HS0.out.2.2.2.2.2.2.2.2.1.below q1, HS0.out.2.2.2.2.2.2.2.2.2.1.below q1, HS0.out.2.2.2.2.2.2.2.2.2.2.below q1⟩⟩
  case rest =>
  obtain ⟨g12, m12, ad12, n12, c12, rfl, ge12, vn, hN, hS0⟩ := hcut
  clear HS0
  have HS0 : Hid ((fun W => Var W (w.heap.size) [.int .i64 a.x, .int .i64 a.y] ∧ Var W (w.heap.size + 1) [.int .i64 b'.x, .int .i64 b'.y] ∧ Var W (w.heap.size + 1 + 1) [.int .i64 c'.x, .int .i64 c'.y] ∧ Var W (g7) [.int .i64 p.x, .int .i64 p.y] ∧ Var W (g9) [.bool m9, .slice ad9 n9 c9] ∧ Var W (g10) [.bool m10, .slice ad10 n10 c10] ∧ Var W (g11) [.bool m11, .slice ad11 n11 c11] ∧ Var W (g12) [.bool m12, .slice ad12 n12 c12] ∧ NumIs (.agg #[.bool m9, .slice ad9 n9 c9]) (zp) W ∧ NumIs (.agg #[.bool m10, .slice ad10 n10 c10]) (zq) W ∧ NumIs (.agg #[.bool m11, .slice ad11 n11 c11]) (zd) W ∧ NumIs (.agg #[.bool m12, .slice ad12 n12 c12]) (zp * vy + -(zq * uy)) W ∧ Grew w 3 W) _) := ⟨hS0.1, hS0.2.1, hS0.2.2.1, hS0.2.2.2.1, hS0.2.2.2.2.1, hS0.2.2.2.2.2.1, hS0.2.2.2.2.2.2.1, vn, hS0.2.2.2.2.2.2.2.1, hS0.2.2.2.2.2.2.2.2.1, hS0.2.2.2.2.2.2.2.2.2.1, hN, hS0.2.2.2.2.2.2.2.2.2.2⟩
  clear hS0 vn hN
  rename_i K aK
  refine aK _ _ ?_
  clear aK K
  repeat revert ‹Value›
  revert HS0
  revert hz
  revert AY
  revert AX
  revert GnPvx
  revert GPvx
  revert GQux
  revert GnQuy
  revert GQuy
  revert GPvy
  revert Gvy
  revert Gvx
  revert Guy
  revert Gux
  revert GD
  revert GQ
  revert GP
  revert Vy
  revert Vx
  revert Uy
  revert Ux
  revert W2
  revert WX
  revert hee
  revert hpp
  revert HF
  revert hK
  revert BD
  revert EZ
  revert ge12
  revert ge11
  revert ge10
  revert ge9
  revert wc
  revert c12
  revert n12
  revert ad12
  revert m12
  revert g12
  revert c11
  revert n11
  revert ad11
  revert m11
  revert g11
  revert c10
  revert n10
  revert ad10
  revert m10
  revert g10
  revert c9
  revert n9
  revert ad9
  revert m9
  revert g9
  revert vy
  revert vx
  revert uy
  revert ux
  revert zd
  revert zq
  revert zp
  revert c'
  revert b'
  revert g7
  revert re
  revert p
  exact hP.out⟩
end Go.Proofs.Ytojfggnimmaemaa
