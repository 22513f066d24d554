/-
  The walk of the law PredCentres, part 8.
-/
import Derived.Test.YtojfggnimmaemaaPCnG
namespace Go.Proofs.Ytojfggnimmaemaa
open Go.RowKit

set_option maxHeartbeats 32000000 in
set_option maxRecDepth 100000 in
noncomputable def pcH (a b c : Pt) (w : World) : {P : Prop // Tail P → (pcG a b c w).val} := ⟨_, fun hP => by
    intro p g7 zx zy zd g9 g10 g11 m11 ad11 n11 c11 g12 m12 ad12 n12 c12 g13 m13 ad13 n13 c13 g14 m14 ad14 n14 c14 K0 aK0 wc HO HP0 EZ Gfd Gnfd GX GY GD Gf G2x G2y Gd2x Gd2y Gpx Gpy R2x R2y W2 ge9 ge10 ge11 ge12 ge13 ge14 HS0
    intros
    go_upto_region 13 with (fail)
    go_cut [15] (fun pv W => ∃ g15 : Nat, ∃ (m15 : Bool) (ad15 : Option Addr) (n15 c15 : Nat), pv = .pointer (some ⟨g15, 0, none⟩) ∧ (w.heap.size + 3 ≤ g15) ∧ Var W (g15) [.bool m15, .slice ad15 n15 c15] ∧ NumIs (.agg #[.bool m15, .slice ad15 n15 c15]) (zx + zd * (2 * a.x)) W ∧ (fun W => Var W (w.heap.size) [.int .i64 a.x, .int .i64 a.y] ∧ Var W (g7) [.int .i64 p.x, .int .i64 p.y] ∧ Var W (g11) [.bool m11, .slice ad11 n11 c11] ∧ Var W (g12) [.bool m12, .slice ad12 n12 c12] ∧ Var W (g13) [.bool m13, .slice ad13 n13 c13] ∧ Var W (g14) [.bool m14, .slice ad14 n14 c14] ∧ NumIs (.agg #[.bool m11, .slice ad11 n11 c11]) (zd) W ∧ NumIs (.agg #[.bool m12, .slice ad12 n12 c12]) (zx) W ∧ NumIs (.agg #[.bool m13, .slice ad13 n13 c13]) (zy) W ∧ NumIs (.agg #[.bool m14, .slice ad14 n14 c14]) (8589934593 * zd) W ∧ Grew w 3 W) W)
    case first =>
      clear HO EZ
      obtain ⟨w2x, w2y⟩ := W2.out
      refine wp_region_bel (by kernel_rfl) (fun q1 => ?_)
      revert q1
      generalize World.drew _ = W1
      intro q1
      refine tk2 (i := 0) (v := ?_) rfl (Or.inl ⟨by rfl, ?_⟩) ?_
      rotate_left
      · intro Wq hSw
        obtain ⟨k0, k1⟩ := (HS0.out.2.2.2.1.below hSw).two
        clear hSw
        go_simp
        all_goals (with_reducible rfl)
      try simp only [Act.put, x2, x4, x5, x6, x7]
      refine tk2 (i := 1) (v := ?_) rfl (Or.inl ⟨by rfl, ?_⟩) ?_
      rotate_left
      · intro Wq hSw
        obtain ⟨k0, k1⟩ := (HS0.out.2.2.1.below hSw).two
        clear hSw
        go_simp
        all_goals (with_reducible rfl)
      try simp only [Act.put, x2, x3, x4, x5, x6, x7]
      refine tk2 (i := 2) (v := ?_) rfl (Or.inl ⟨by rfl, ?_⟩) ?_
      rotate_left
      · intro Wq hSw
        clear hSw
        go_simp
        all_goals (with_reducible rfl)
      try simp only [Act.put, x2, x3, x4, x5, x6, x7]
      refine tk2 (i := 3) (v := ?_) rfl (Or.inl ⟨by rfl, ?_⟩) ?_
      rotate_left
      · intro Wq hSw
        obtain ⟨k0, k1⟩ := (HS0.out.1.below hSw).two
        clear hSw
        go_simp
        all_goals (with_reducible rfl)
      try simp only [Act.put, x2, x3, x4, x5, x6, x7]
      refine tk2 (i := 4) (v := ?_) rfl (Or.inl ⟨by rfl, ?_⟩) ?_
      rotate_left
      · intro Wq hSw
        clear hSw
        go_simp
        all_goals (with_reducible rfl)
      try simp only [Act.put, x2, x3, x4, x5, x6, x7]
      refine ry2 (i := 5) (j := 8) rfl (fun K hK => ?_) rfl (fun K hK => ?_)
      ·go_simp
       go_at_call 37
       (with_reducible refine (small_num (2 * a.x) R2x.out.1 R2x.out.2 _).mono ?_); rintro e w1 ⟨va, rfl, hNa, hb1⟩
       obtain ⟨ma, ada, na, ca, rfl⟩ := hNa.shape
       have HNa := hi hNa
       clear hNa
       go_wp2_with fail
       refine hK.out _ _ (bl_trans q1 hb1) (fun q2 => ?_)
       clear hK K q1 hb1
       have q1 := q2
       clear q2
       try simp only [Act.put, x2, x3, x4, x5, x6, x7]
       refine ry2 (i := 6) (j := 8) rfl (fun K hK => ?_) rfl (fun K hK => ?_)
       ·go_simp
        go_at_call 36
        (with_reducible refine (times_num _ _ zd (2 * a.x) _ (HS0.out.2.2.2.2.2.2.1.below q1) HNa.out GD.out G2x.out).mono ?_); rintro e w1 ⟨vb, rfl, hNb, hb1⟩
        obtain ⟨mb, adb, nb, cb, rfl⟩ := hNb.shape
        have HNb := hi hNb
        clear hNb
        go_wp2_with fail
        refine hK.out _ _ (bl_trans q1 hb1) (fun q2 => ?_)
        clear hK K q1 hb1
        have q1 := q2
        clear q2
        try simp only [Act.put, x2, x3, x4, x5, x6, x7]
        refine ry2 (i := 7) (j := 8) rfl (fun K hK => ?_) rfl (fun K hK => ?_)
        ·go_simp
         go_at_call 38
         (with_reducible refine (plus_c _ _ zx (zd * (2 * a.x)) _ (HS0.out.2.2.2.2.2.2.2.1.below q1) HNb.out GX.out Gd2x.out).mono ?_); rintro e w1 ⟨vc, rfl, hNc, hb1⟩
         obtain ⟨mc, adc, nc, cc, rfl⟩ := hNc.shape
         have HNc := hi hNc
         clear hNc
         go_wp2_with fail
         refine hK.out _ _ (bl_trans q1 hb1) (fun q2 => ?_)
         clear hK K q1 hb1
         have q1 := q2
         clear q2
         try simp only [Act.put, x2, x3, x4, x5, x6, x7]
         refine ry1 (i := 8) rfl (fun K hK => ?_)
         go_simp
         refine hK.out _ _ (bel_one q1 _) (fun q2 => ?_)
         replace HNc := hi (HNc.out.below (bel_al q2 (bl_one _ _)))
         have hgeHX := q1.size
         have HX := hi (bel_var2 q1 (.bool false) (.slice none 0 0) 42)
         clear hK K q1
         have q1 := q2
         clear q2
         try simp only [Act.put, x2, x3, x4, x5, x6, x7]
         revert HNc
         revert HX
         revert q1
         generalize World.alloc _ _ = W2
         intro q1 HX HNc
         refine ry1 (i := 9) rfl (fun K hK => ?_)
         obtain ⟨k0, k1⟩ := HX.out.two
         obtain ⟨f0, f1⟩ := HX.out.free2
         go_simp
         refine hK.out _ _ (bel_set2 q1 hgeHX hgeHX _ _) (fun q2 => ?_)
         replace HNc := hi (HNc.out.res HX.out (mc) (.slice adc nc cc))
         replace HX := hi (HX.out.set2 (.bool mc) (.slice adc nc cc))
         clear hK K q1 k0 k1 f0 f1
         have q1 := q2
         clear q2
         try simp only [x5, x6, x7]
         refine wpAnyH_done (by kernel_rfl) ?_ _
         go_wp2_with fail
         go_meet
         case rel => exact ⟨_, _, _, _, _, rfl, Nat.le_trans (by have := HS0.out.2.2.2.2.2.2.2.2.2.2.sz; exact this) hgeHX, HX.out, HNc.out, ⟨HS0.out.1.below q1, HS0.out.2.1.below q1, HS0.out.2.2.1.below q1, HS0.out.2.2.2.1.below q1, HS0.out.2.2.2.2.1.below q1, HS0.out.2.2.2.2.2.1.below q1, HS0.out.2.2.2.2.2.2.1.below q1, HS0.out.2.2.2.2.2.2.2.1.below q1, HS0.out.2.2.2.2.2.2.2.2.1.below q1, HS0.out.2.2.2.2.2.2.2.2.2.1.below q1, HS0.out.2.2.2.2.2.2.2.2.2.2.below q1⟩⟩
        ·go_simp
         refine hK.out _ _ (bel_one q1 _) (fun q2 => ?_)
         replace HNb := hi (HNb.out.below (bel_al q2 (bl_one _ _)))
         have hgeHX := q1.size
         have HX := hi (bel_var2 q1 (.bool false) (.slice none 0 0) 42)
         clear hK K q1
         have q1 := q2
         clear q2
         try simp only [Act.put, x2, x3, x4, x5, x6, x7]
         revert HNb
         revert HX
         revert q1
         generalize World.alloc _ _ = W2
         intro q1 HX HNb
         refine ry1 (i := 7) rfl (fun K hK => ?_)
         go_simp
         go_at_call 38
         (with_reducible refine (plus_c _ _ zx (zd * (2 * a.x)) _ (HS0.out.2.2.2.2.2.2.2.1.below q1) HNb.out GX.out Gd2x.out).mono ?_); rintro e w1 ⟨vc, rfl, hNc, hb1⟩
         obtain ⟨mc, adc, nc, cc, rfl⟩ := hNc.shape
         have HNc := hi hNc
         clear hNc
         go_wp2_with fail
         refine hK.out _ _ (bl_trans q1 hb1) (fun q2 => ?_)
         replace HX := hi (HX.out.below hb1)
         clear hK K q1 hb1
         have q1 := q2
         clear q2
         try simp only [Act.put, x2, x3, x4, x5, x6, x7]
         refine ry1 (i := 9) rfl (fun K hK => ?_)
         obtain ⟨k0, k1⟩ := HX.out.two
         obtain ⟨f0, f1⟩ := HX.out.free2
         go_simp
         refine hK.out _ _ (bel_set2 q1 hgeHX hgeHX _ _) (fun q2 => ?_)
         replace HNc := hi (HNc.out.res HX.out (mc) (.slice adc nc cc))
         replace HX := hi (HX.out.set2 (.bool mc) (.slice adc nc cc))
         clear hK K q1 k0 k1 f0 f1
         have q1 := q2
         clear q2
         try simp only [x5, x6, x7]
         refine wpAnyH_done (by kernel_rfl) ?_ _
         go_wp2_with fail
         go_meet
         case rel => exact ⟨_, _, _, _, _, rfl, Nat.le_trans (by have := HS0.out.2.2.2.2.2.2.2.2.2.2.sz; exact this) hgeHX, HX.out, HNc.out, ⟨HS0.out.1.below q1, HS0.out.2.1.below q1, HS0.out.2.2.1.below q1, HS0.out.2.2.2.1.below q1, HS0.out.2.2.2.2.1.below q1, HS0.out.2.2.2.2.2.1.below q1, HS0.out.2.2.2.2.2.2.1.below q1, HS0.out.2.2.2.2.2.2.2.1.below q1, HS0.out.2.2.2.2.2.2.2.2.1.below q1, HS0.out.2.2.2.2.2.2.2.2.2.1.below q1, HS0.out.2.2.2.2.2.2.2.2.2.2.below q1⟩⟩
       ·go_simp
        refine hK.out _ _ (bel_one q1 _) (fun q2 => ?_)
        replace HNa := hi (HNa.out.below (bel_al q2 (bl_one _ _)))
        have hgeHX := q1.size
        have HX := hi (bel_var2 q1 (.bool false) (.slice none 0 0) 42)
        clear hK K q1
        have q1 := q2
        clear q2
        try simp only [Act.put, x2, x3, x4, x5, x6, x7]
        revert HNa
        revert HX
        revert q1
        generalize World.alloc _ _ = W2
        intro q1 HX HNa
        refine ry1 (i := 6) rfl (fun K hK => ?_)
        go_simp
        go_at_call 36
        (with_reducible refine (times_num _ _ zd (2 * a.x) _ (HS0.out.2.2.2.2.2.2.1.below q1) HNa.out GD.out G2x.out).mono ?_); rintro e w1 ⟨vb, rfl, hNb, hb1⟩
        obtain ⟨mb, adb, nb, cb, rfl⟩ := hNb.shape
        have HNb := hi hNb
        clear hNb
        go_wp2_with fail
        refine hK.out _ _ (bl_trans q1 hb1) (fun q2 => ?_)
        replace HX := hi (HX.out.below hb1)
        clear hK K q1 hb1
        have q1 := q2
        clear q2
        try simp only [Act.put, x2, x3, x4, x5, x6, x7]
        refine ry1 (i := 7) rfl (fun K hK => ?_)
        go_simp
        go_at_call 38
        (with_reducible refine (plus_c _ _ zx (zd * (2 * a.x)) _ (HS0.out.2.2.2.2.2.2.2.1.below q1) HNb.out GX.out Gd2x.out).mono ?_); rintro e w1 ⟨vc, rfl, hNc, hb1⟩
        obtain ⟨mc, adc, nc, cc, rfl⟩ := hNc.shape
        have HNc := hi hNc
        clear hNc
        go_wp2_with fail
        refine hK.out _ _ (bl_trans q1 hb1) (fun q2 => ?_)
        replace HX := hi (HX.out.below hb1)
        clear hK K q1 hb1
        have q1 := q2
        clear q2
        try simp only [Act.put, x2, x3, x4, x5, x6, x7]
        refine ry1 (i := 9) rfl (fun K hK => ?_)
        obtain ⟨k0, k1⟩ := HX.out.two
        obtain ⟨f0, f1⟩ := HX.out.free2
        go_simp
        refine hK.out _ _ (bel_set2 q1 hgeHX hgeHX _ _) (fun q2 => ?_)
        replace HNc := hi (HNc.out.res HX.out (mc) (.slice adc nc cc))
        replace HX := hi (HX.out.set2 (.bool mc) (.slice adc nc cc))
        clear hK K q1 k0 k1 f0 f1
        have q1 := q2
        clear q2
        try simp only [x5, x6, x7]
        refine wpAnyH_done (by kernel_rfl) ?_ _
        go_wp2_with fail
        go_meet
        case rel => exact ⟨_, _, _, _, _, rfl, Nat.le_trans (by have := HS0.out.2.2.2.2.2.2.2.2.2.2.sz; exact this) hgeHX, HX.out, HNc.out, ⟨HS0.out.1.below q1, HS0.out.2.1.below q1, HS0.out.2.2.1.below q1, HS0.out.2.2.2.1.below q1, HS0.out.2.2.2.2.1.below q1, HS0.out.2.2.2.2.2.1.below q1, HS0.out.2.2.2.2.2.2.1.below q1, HS0.out.2.2.2.2.2.2.2.1.below q1, HS0.out.2.2.2.2.2.2.2.2.1.below q1, HS0.out.2.2.2.2.2.2.2.2.2.1.below q1, HS0.out.2.2.2.2.2.2.2.2.2.2.below q1⟩⟩
      ·go_simp
       refine hK.out _ _ (bel_one q1 _) (fun q2 => ?_)
       have hgeHX := q1.size
       have HX := hi (bel_var2 q1 (.bool false) (.slice none 0 0) 42)
       clear hK K q1
       have q1 := q2
       clear q2
       try simp only [Act.put, x2, x3, x4, x5, x6, x7]
       revert HX
       revert q1
       generalize World.alloc _ _ = W2
       intro q1 HX
       refine ry1 (i := 5) rfl (fun K hK => ?_)
       go_simp
       go_at_call 37
       (with_reducible refine (small_num (2 * a.x) R2x.out.1 R2x.out.2 _).mono ?_); rintro e w1 ⟨va, rfl, hNa, hb1⟩
       obtain ⟨ma, ada, na, ca, rfl⟩ := hNa.shape
       have HNa := hi hNa
       clear hNa
       go_wp2_with fail
       refine hK.out _ _ (bl_trans q1 hb1) (fun q2 => ?_)
       replace HX := hi (HX.out.below hb1)
       clear hK K q1 hb1
       have q1 := q2
       clear q2
       try simp only [Act.put, x2, x3, x4, x5, x6, x7]
       refine ry1 (i := 6) rfl (fun K hK => ?_)
       go_simp
       go_at_call 36
       (with_reducible refine (times_num _ _ zd (2 * a.x) _ (HS0.out.2.2.2.2.2.2.1.below q1) HNa.out GD.out G2x.out).mono ?_); rintro e w1 ⟨vb, rfl, hNb, hb1⟩
       obtain ⟨mb, adb, nb, cb, rfl⟩ := hNb.shape
       have HNb := hi hNb
       clear hNb
       go_wp2_with fail
       refine hK.out _ _ (bl_trans q1 hb1) (fun q2 => ?_)
       replace HX := hi (HX.out.below hb1)
       clear hK K q1 hb1
       have q1 := q2
       clear q2
       try simp only [Act.put, x2, x3, x4, x5, x6, x7]
       refine ry1 (i := 7) rfl (fun K hK => ?_)
       go_simp
       go_at_call 38
       (with_reducible refine (plus_c _ _ zx (zd * (2 * a.x)) _ (HS0.out.2.2.2.2.2.2.2.1.below q1) HNb.out GX.out Gd2x.out).mono ?_); rintro e w1 ⟨vc, rfl, hNc, hb1⟩
       obtain ⟨mc, adc, nc, cc, rfl⟩ := hNc.shape
       have HNc := hi hNc
       clear hNc
       go_wp2_with fail
       refine hK.out _ _ (bl_trans q1 hb1) (fun q2 => ?_)
       replace HX := hi (HX.out.below hb1)
       clear hK K q1 hb1
       have q1 := q2
       clear q2
       try simp only [Act.put, x2, x3, x4, x5, x6, x7]
       refine ry1 (i := 9) rfl (fun K hK => ?_)
       obtain ⟨k0, k1⟩ := HX.out.two
       obtain ⟨f0, f1⟩ := HX.out.free2
       go_simp
       refine hK.out _ _ (bel_set2 q1 hgeHX hgeHX _ _) (fun q2 => ?_)
       replace HNc := hi (HNc.out.res HX.out (mc) (.slice adc nc cc))
       replace HX := hi (HX.out.set2 (.bool mc) (.slice adc nc cc))
       clear hK K q1 k0 k1 f0 f1
       have q1 := q2
       clear q2
       try simp only [x5, x6, x7]
       refine wpAnyH_done (by kernel_rfl) ?_ _
       go_wp2_with fail
       go_meet
       case rel => exact ⟨_, _, _, _, _, rfl, Nat.le_trans (by have := HS0.out.2.2.2.2.2.2.2.2.2.2.sz; exact this) hgeHX, HX.out, HNc.out, ⟨HS0.out.1.below q1, HS0.out.2.1.below q1, HS0.out.2.2.1.below q1, HS0.out.2.2.2.1.below q1, HS0.out.2.2.2.2.1.below q1, HS0.out.2.2.2.2.2.1.below q1, HS0.out.2.2.2.2.2.2.1.below q1, HS0.out.2.2.2.2.2.2.2.1.below q1, HS0.out.2.2.2.2.2.2.2.2.1.below q1, HS0.out.2.2.2.2.2.2.2.2.2.1.below q1, HS0.out.2.2.2.2.2.2.2.2.2.2.below q1⟩⟩
    case rest =>
    obtain ⟨g15, m15, ad15, n15, c15, rfl, ge15, vn, hN, hS0⟩ := hcut
    clear HS0
    have HS0 : Hid ((fun W => Var W (w.heap.size) [.int .i64 a.x, .int .i64 a.y] ∧ Var W (g7) [.int .i64 p.x, .int .i64 p.y] ∧ Var W (g11) [.bool m11, .slice ad11 n11 c11] ∧ Var W (g12) [.bool m12, .slice ad12 n12 c12] ∧ Var W (g13) [.bool m13, .slice ad13 n13 c13] ∧ Var W (g14) [.bool m14, .slice ad14 n14 c14] ∧ Var W (g15) [.bool m15, .slice ad15 n15 c15] ∧ NumIs (.agg #[.bool m11, .slice ad11 n11 c11]) (zd) W ∧ NumIs (.agg #[.bool m12, .slice ad12 n12 c12]) (zx) W ∧ NumIs (.agg #[.bool m13, .slice ad13 n13 c13]) (zy) W ∧ NumIs (.agg #[.bool m14, .slice ad14 n14 c14]) (8589934593 * zd) W ∧ NumIs (.agg #[.bool m15, .slice ad15 n15 c15]) (zx + zd * (2 * a.x)) W ∧ Grew w 3 W) _) := ⟨hS0.1, hS0.2.1, hS0.2.2.1, hS0.2.2.2.1, hS0.2.2.2.2.1, hS0.2.2.2.2.2.1, vn, hS0.2.2.2.2.2.2.1, hS0.2.2.2.2.2.2.2.1, hS0.2.2.2.2.2.2.2.2.1, hS0.2.2.2.2.2.2.2.2.2.1, hN, hS0.2.2.2.2.2.2.2.2.2.2⟩
    clear hS0 vn hN
    go_upto_region 14 with (fail)
    go_cut [16] (fun pv W => ∃ g16 : Nat, ∃ (m16 : Bool) (ad16 : Option Addr) (n16 c16 : Nat), pv = .pointer (some ⟨g16, 0, none⟩) ∧ (w.heap.size + 3 ≤ g16) ∧ Var W (g16) [.bool m16, .slice ad16 n16 c16] ∧ NumIs (.agg #[.bool m16, .slice ad16 n16 c16]) (zy + zd * (2 * a.y)) W ∧ (fun W => Var W (w.heap.size) [.int .i64 a.x, .int .i64 a.y] ∧ Var W (g7) [.int .i64 p.x, .int .i64 p.y] ∧ Var W (g11) [.bool m11, .slice ad11 n11 c11] ∧ Var W (g12) [.bool m12, .slice ad12 n12 c12] ∧ Var W (g13) [.bool m13, .slice ad13 n13 c13] ∧ Var W (g14) [.bool m14, .slice ad14 n14 c14] ∧ Var W (g15) [.bool m15, .slice ad15 n15 c15] ∧ NumIs (.agg #[.bool m11, .slice ad11 n11 c11]) (zd) W ∧ NumIs (.agg #[.bool m12, .slice ad12 n12 c12]) (zx) W ∧ NumIs (.agg #[.bool m13, .slice ad13 n13 c13]) (zy) W ∧ NumIs (.agg #[.bool m14, .slice ad14 n14 c14]) (8589934593 * zd) W ∧ NumIs (.agg #[.bool m15, .slice ad15 n15 c15]) (zx + zd * (2 * a.x)) W ∧ Grew w 3 W) W)
    case first =>
      clear HO EZ
      obtain ⟨w2x, w2y⟩ := W2.out
      refine wp_region_bel (by kernel_rfl) (fun q1 => ?_)
      revert q1
      generalize World.drew _ = W1
      intro q1
      refine tk2 (i := 0) (v := ?_) rfl (Or.inl ⟨by rfl, ?_⟩) ?_
      rotate_left
      · intro Wq hSw
        obtain ⟨k0, k1⟩ := (HS0.out.2.2.2.2.1.below hSw).two
        clear hSw
        go_simp
        all_goals (with_reducible rfl)
      try simp only [Act.put, x2, x4, x5, x6, x7]
      refine tk2 (i := 1) (v := ?_) rfl (Or.inl ⟨by rfl, ?_⟩) ?_
      rotate_left
      · intro Wq hSw
        obtain ⟨k0, k1⟩ := (HS0.out.2.2.1.below hSw).two
        clear hSw
        go_simp
        all_goals (with_reducible rfl)
      try simp only [Act.put, x2, x3, x4, x5, x6, x7]
      refine tk2 (i := 2) (v := ?_) rfl (Or.inl ⟨by rfl, ?_⟩) ?_
      rotate_left
      · intro Wq hSw
        clear hSw
        go_simp
        all_goals (with_reducible rfl)
      try simp only [Act.put, x2, x3, x4, x5, x6, x7]
      refine tk2 (i := 3) (v := ?_) rfl (Or.inl ⟨by rfl, ?_⟩) ?_
      rotate_left
      · intro Wq hSw
        obtain ⟨k0, k1⟩ := (HS0.out.1.below hSw).two
        clear hSw
        go_simp
        all_goals (with_reducible rfl)
      try simp only [Act.put, x2, x3, x4, x5, x6, x7]
      refine tk2 (i := 4) (v := ?_) rfl (Or.inl ⟨by rfl, ?_⟩) ?_
      rotate_left
      · intro Wq hSw
        clear hSw
        go_simp
        all_goals (with_reducible rfl)
      try simp only [Act.put, x2, x3, x4, x5, x6, x7]
      refine ry2 (i := 5) (j := 8) rfl (fun K hK => ?_) rfl (fun K hK => ?_)
      ·go_simp
       go_at_call 37
       (with_reducible refine (small_num (2 * a.y) R2y.out.1 R2y.out.2 _).mono ?_); rintro e w1 ⟨va, rfl, hNa, hb1⟩
       obtain ⟨ma, ada, na, ca, rfl⟩ := hNa.shape
       have HNa := hi hNa
       clear hNa
       go_wp2_with fail
       refine hK.out _ _ (bl_trans q1 hb1) (fun q2 => ?_)
       clear hK K q1 hb1
       have q1 := q2
       clear q2
       try simp only [Act.put, x2, x3, x4, x5, x6, x7]
       refine ry2 (i := 6) (j := 8) rfl (fun K hK => ?_) rfl (fun K hK => ?_)
       ·go_simp
        go_at_call 36
        (with_reducible refine (times_num _ _ zd (2 * a.y) _ (HS0.out.2.2.2.2.2.2.2.1.below q1) HNa.out GD.out G2y.out).mono ?_); rintro e w1 ⟨vb, rfl, hNb, hb1⟩
        obtain ⟨mb, adb, nb, cb, rfl⟩ := hNb.shape
        have HNb := hi hNb
        clear hNb
        go_wp2_with fail
        refine hK.out _ _ (bl_trans q1 hb1) (fun q2 => ?_)
        clear hK K q1 hb1
        have q1 := q2
        clear q2
        try simp only [Act.put, x2, x3, x4, x5, x6, x7]
        refine ry2 (i := 7) (j := 8) rfl (fun K hK => ?_) rfl (fun K hK => ?_)
        ·go_simp
         go_at_call 38
         (with_reducible refine (plus_c _ _ zy (zd * (2 * a.y)) _ (HS0.out.2.2.2.2.2.2.2.2.2.1.below q1) HNb.out GY.out Gd2y.out).mono ?_); rintro e w1 ⟨vc, rfl, hNc, hb1⟩
         obtain ⟨mc, adc, nc, cc, rfl⟩ := hNc.shape
         have HNc := hi hNc
         clear hNc
         go_wp2_with fail
         refine hK.out _ _ (bl_trans q1 hb1) (fun q2 => ?_)
         clear hK K q1 hb1
         have q1 := q2
         clear q2
         try simp only [Act.put, x2, x3, x4, x5, x6, x7]
         refine ry1 (i := 8) rfl (fun K hK => ?_)
         go_simp
         refine hK.out _ _ (bel_one q1 _) (fun q2 => ?_)
         replace HNc := hi (HNc.out.below (bel_al q2 (bl_one _ _)))
         have hgeHX := q1.size
         have HX := hi (bel_var2 q1 (.bool false) (.slice none 0 0) 42)
         clear hK K q1
         have q1 := q2
         clear q2
         try simp only [Act.put, x2, x3, x4, x5, x6, x7]
         revert HNc
         revert HX
         revert q1
         generalize World.alloc _ _ = W2
         intro q1 HX HNc
         refine ry1 (i := 9) rfl (fun K hK => ?_)
         obtain ⟨k0, k1⟩ := HX.out.two
         obtain ⟨f0, f1⟩ := HX.out.free2
         go_simp
         refine hK.out _ _ (bel_set2 q1 hgeHX hgeHX _ _) (fun q2 => ?_)
         replace HNc := hi (HNc.out.res HX.out (mc) (.slice adc nc cc))
         replace HX := hi (HX.out.set2 (.bool mc) (.slice adc nc cc))
         clear hK K q1 k0 k1 f0 f1
         have q1 := q2
         clear q2
         try simp only [x5, x6, x7]
         refine wpAnyH_done (by kernel_rfl) ?_ _
         go_wp2_with fail
         go_meet
         case rel => exact ⟨_, _, _, _, _, rfl, Nat.le_trans (by have := HS0.out.2.2.2.2.2.2.2.2.2.2.2.2.sz; exact this) hgeHX, HX.out, HNc.out, ⟨HS0.out.1.below q1, HS0.out.2.1.below q1, HS0.out.2.2.1.below q1, HS0.out.2.2.2.1.below q1, HS0.out.2.2.2.2.1.below q1, HS0.out.2.2.2.2.2.1.below q1, HS0.out.2.2.2.2.2.2.1.below q1, HS0.out.2.2.2.2.2.2.2.1.below q1, HS0.out.2.2.2.2.2.2.2.2.1.below q1, HS0.out.2.2.2.2.2.2.2.2.2.1.below q1, HS0.out.2.2.2.2.2.2.2.2.2.2.1.below q1, HS0.out.2.2.2.2.2.2.2.2.2.2.2.1.below q1, HS0.out.2.2.2.2.2.2.2.2.2.2.2.2.below q1⟩⟩
        ·go_simp
         refine hK.out _ _ (bel_one q1 _) (fun q2 => ?_)
         replace HNb := hi (HNb.out.below (bel_al q2 (bl_one _ _)))
         have hgeHX := q1.size
         have HX := hi (bel_var2 q1 (.bool false) (.slice none 0 0) 42)
         clear hK K q1
         have q1 := q2
         clear q2
         try simp only [Act.put, x2, x3, x4, x5, x6, x7]
         revert HNb
         revert HX
         revert q1
         generalize World.alloc _ _ = W2
         intro q1 HX HNb
         refine ry1 (i := 7) rfl (fun K hK => ?_)
         go_simp
         go_at_call 38
         (with_reducible refine (plus_c _ _ zy (zd * (2 * a.y)) _ (HS0.out.2.2.2.2.2.2.2.2.2.1.below q1) HNb.out GY.out Gd2y.out).mono ?_); rintro e w1 ⟨vc, rfl, hNc, hb1⟩
         obtain ⟨mc, adc, nc, cc, rfl⟩ := hNc.shape
         have HNc := hi hNc
         clear hNc
         go_wp2_with fail
         refine hK.out _ _ (bl_trans q1 hb1) (fun q2 => ?_)
         replace HX := hi (HX.out.below hb1)
         clear hK K q1 hb1
         have q1 := q2
         clear q2
         try simp only [Act.put, x2, x3, x4, x5, x6, x7]
         refine ry1 (i := 9) rfl (fun K hK => ?_)
         obtain ⟨k0, k1⟩ := HX.out.two
         obtain ⟨f0, f1⟩ := HX.out.free2
         go_simp
         refine hK.out _ _ (bel_set2 q1 hgeHX hgeHX _ _) (fun q2 => ?_)
         replace HNc := hi (HNc.out.res HX.out (mc) (.slice adc nc cc))
         replace HX := hi (HX.out.set2 (.bool mc) (.slice adc nc cc))
         clear hK K q1 k0 k1 f0 f1
         have q1 := q2
         clear q2
         try simp only [x5, x6, x7]
         refine wpAnyH_done (by kernel_rfl) ?_ _
         go_wp2_with fail
         go_meet
         case rel => exact ⟨_, _, _, _, _, rfl, Nat.le_trans (by have := HS0.out.2.2.2.2.2.2.2.2.2.2.2.2.sz; exact this) hgeHX, HX.out, HNc.out, ⟨HS0.out.1.below q1, HS0.out.2.1.below q1, HS0.out.2.2.1.below q1, HS0.out.2.2.2.1.below q1, HS0.out.2.2.2.2.1.below q1, HS0.out.2.2.2.2.2.1.below q1, HS0.out.2.2.2.2.2.2.1.below q1, HS0.out.2.2.2.2.2.2.2.1.below q1, HS0.out.2.2.2.2.2.2.2.2.1.below q1, HS0.out.2.2.2.2.2.2.2.2.2.1.below q1, HS0.out.2.2.2.2.2.2.2.2.2.2.1.below q1, HS0.out.2.2.2.2.2.2.2.2.2.2.2.1.below q1, HS0.out.2.2.2.2.2.2.2.2.2.2.2.2.below q1⟩⟩
       ·go_simp
        refine hK.out _ _ (bel_one q1 _) (fun q2 => ?_)
        replace HNa := hi (HNa.out.below (bel_al q2 (bl_one _ _)))
        have hgeHX := q1.size
        have HX := hi (bel_var2 q1 (.bool false) (.slice none 0 0) 42)
        clear hK K q1
        have q1 := q2
        clear q2
        try simp only [Act.put, x2, x3, x4, x5, x6, x7]
        revert HNa
        revert HX
        revert q1
        generalize World.alloc _ _ = W2
        intro q1 HX HNa
        refine ry1 (i := 6) rfl (fun K hK => ?_)
        go_simp
        go_at_call 36
        (with_reducible refine (times_num _ _ zd (2 * a.y) _ (HS0.out.2.2.2.2.2.2.2.1.below q1) HNa.out GD.out G2y.out).mono ?_); rintro e w1 ⟨vb, rfl, hNb, hb1⟩
        obtain ⟨mb, adb, nb, cb, rfl⟩ := hNb.shape
        have HNb := hi hNb
        clear hNb
        go_wp2_with fail
        refine hK.out _ _ (bl_trans q1 hb1) (fun q2 => ?_)
        replace HX := hi (HX.out.below hb1)
        clear hK K q1 hb1
        have q1 := q2
        clear q2
        try simp only [Act.put, x2, x3, x4, x5, x6, x7]
        refine ry1 (i := 7) rfl (fun K hK => ?_)
        go_simp
        go_at_call 38
        (with_reducible refine (plus_c _ _ zy (zd * (2 * a.y)) _ (HS0.out.2.2.2.2.2.2.2.2.2.1.below q1) HNb.out GY.out Gd2y.out).mono ?_); rintro e w1 ⟨vc, rfl, hNc, hb1⟩
        obtain ⟨mc, adc, nc, cc, rfl⟩ := hNc.shape
        have HNc := hi hNc
        clear hNc
        go_wp2_with fail
        refine hK.out _ _ (bl_trans q1 hb1) (fun q2 => ?_)
        replace HX := hi (HX.out.below hb1)
        clear hK K q1 hb1
        have q1 := q2
        clear q2
        try simp only [Act.put, x2, x3, x4, x5, x6, x7]
        refine ry1 (i := 9) rfl (fun K hK => ?_)
        obtain ⟨k0, k1⟩ := HX.out.two
        obtain ⟨f0, f1⟩ := HX.out.free2
        go_simp
        refine hK.out _ _ (bel_set2 q1 hgeHX hgeHX _ _) (fun q2 => ?_)
        replace HNc := hi (HNc.out.res HX.out (mc) (.slice adc nc cc))
        replace HX := hi (HX.out.set2 (.bool mc) (.slice adc nc cc))
        clear hK K q1 k0 k1 f0 f1
        have q1 := q2
        clear q2
        try simp only [x5, x6, x7]
        refine wpAnyH_done (by kernel_rfl) ?_ _
        go_wp2_with fail
        go_meet
        case rel => exact ⟨_, _, _, _, _, rfl, Nat.le_trans (by have := HS0.out.2.2.2.2.2.2.2.2.2.2.2.2.sz; exact this) hgeHX, HX.out, HNc.out, ⟨HS0.out.1.below q1, HS0.out.2.1.below q1, HS0.out.2.2.1.below q1, HS0.out.2.2.2.1.below q1, HS0.out.2.2.2.2.1.below q1, HS0.out.2.2.2.2.2.1.below q1, HS0.out.2.2.2.2.2.2.1.below q1, HS0.out.2.2.2.2.2.2.2.1.below q1, HS0.out.2.2.2.2.2.2.2.2.1.below q1, HS0.out.2.2.2.2.2.2.2.2.2.1.below q1, HS0.out.2.2.2.2.2.2.2.2.2.2.1.below q1, HS0.out.2.2.2.2.2.2.2.2.2.2.2.1.below q1, HS0.out.2.2.2.2.2.2.2.2.2.2.2.2.below q1⟩⟩
      ·go_simp
       refine hK.out _ _ (bel_one q1 _) (fun q2 => ?_)
       have hgeHX := q1.size
       have HX := hi (bel_var2 q1 (.bool false) (.slice none 0 0) 42)
       clear hK K q1
       have q1 := q2
       clear q2
       try simp only [Act.put, x2, x3, x4, x5, x6, x7]
       revert HX
       revert q1
       generalize World.alloc _ _ = W2
       intro q1 HX
       refine ry1 (i := 5) rfl (fun K hK => ?_)
       go_simp
       go_at_call 37
       (with_reducible refine (small_num (2 * a.y) R2y.out.1 R2y.out.2 _).mono ?_); rintro e w1 ⟨va, rfl, hNa, hb1⟩
       obtain ⟨ma, ada, na, ca, rfl⟩ := hNa.shape
       have HNa := hi hNa
       clear hNa
       go_wp2_with fail
       refine hK.out _ _ (bl_trans q1 hb1) (fun q2 => ?_)
       replace HX := hi (HX.out.below hb1)
       clear hK K q1 hb1
       have q1 := q2
       clear q2
       try simp only [Act.put, x2, x3, x4, x5, x6, x7]
       refine ry1 (i := 6) rfl (fun K hK => ?_)
       go_simp
       go_at_call 36
       (with_reducible refine (times_num _ _ zd (2 * a.y) _ (HS0.out.2.2.2.2.2.2.2.1.below q1) HNa.out GD.out G2y.out).mono ?_); rintro e w1 ⟨vb, rfl, hNb, hb1⟩
       obtain ⟨mb, adb, nb, cb, rfl⟩ := hNb.shape
       have HNb := hi hNb
       clear hNb
       go_wp2_with fail
       refine hK.out _ _ (bl_trans q1 hb1) (fun q2 => ?_)
       replace HX := hi (HX.out.below hb1)
       clear hK K q1 hb1
       have q1 := q2
       clear q2
       try simp only [Act.put, x2, x3, x4, x5, x6, x7]
       refine ry1 (i := 7) rfl (fun K hK => ?_)
       go_simp
       go_at_call 38
       (with_reducible refine (plus_c _ _ zy (zd * (2 * a.y)) _ (HS0.out.2.2.2.2.2.2.2.2.2.1.below q1) HNb.out GY.out Gd2y.out).mono ?_); rintro e w1 ⟨vc, rfl, hNc, hb1⟩
       obtain ⟨mc, adc, nc, cc, rfl⟩ := hNc.shape
       have HNc := hi hNc
       clear hNc
       go_wp2_with fail
       refine hK.out _ _ (bl_trans q1 hb1) (fun q2 => ?_)
       replace HX := hi (HX.out.below hb1)
       clear hK K q1 hb1
       have q1 := q2
       clear q2
       try simp only [Act.put, x2, x3, x4, x5, x6, x7]
       refine ry1 (i := 9) rfl (fun K hK => ?_)
       obtain ⟨k0, k1⟩ := HX.out.two
       obtain ⟨f0, f1⟩ := HX.out.free2
       go_simp
       refine hK.out _ _ (bel_set2 q1 hgeHX hgeHX _ _) (fun q2 => ?_)
       replace HNc := hi (HNc.out.res HX.out (mc) (.slice adc nc cc))
       replace HX := hi (HX.out.set2 (.bool mc) (.slice adc nc cc))
       clear hK K q1 k0 k1 f0 f1
       have q1 := q2
       clear q2
       try simp only [x5, x6, x7]
       refine wpAnyH_done (by kernel_rfl) ?_ _
       go_wp2_with fail
       go_meet
       case rel => exact ⟨_, _, _, _, _, rfl, Nat.le_trans (by have := HS0.out.2.2.2.2.2.2.2.2.2.2.2.2.sz; exact this) hgeHX, HX.out, HNc.out, ⟨HS0.out.1.below q1, HS0.out.2.1.below q1, HS0.out.2.2.1.below q1, HS0.out.2.2.2.1.below q1, HS0.out.2.2.2.2.1.below q1, HS0.out.2.2.2.2.2.1.below q1, HS0.out.2.2.2.2.2.2.1.below q1, HS0.out.2.2.2.2.2.2.2.1.below q1, HS0.out.2.2.2.2.2.2.2.2.1.below q1, HS0.out.2.2.2.2.2.2.2.2.2.1.below q1, HS0.out.2.2.2.2.2.2.2.2.2.2.1.below q1, HS0.out.2.2.2.2.2.2.2.2.2.2.2.1.below q1, HS0.out.2.2.2.2.2.2.2.2.2.2.2.2.below q1⟩⟩
    case rest =>
    obtain ⟨g16, m16, ad16, n16, c16, rfl, ge16, vn, hN, hS0⟩ := hcut
    clear HS0
    have HS0 : Hid ((fun W => Var W (w.heap.size) [.int .i64 a.x, .int .i64 a.y] ∧ Var W (g7) [.int .i64 p.x, .int .i64 p.y] ∧ Var W (g11) [.bool m11, .slice ad11 n11 c11] ∧ Var W (g12) [.bool m12, .slice ad12 n12 c12] ∧ Var W (g13) [.bool m13, .slice ad13 n13 c13] ∧ Var W (g14) [.bool m14, .slice ad14 n14 c14] ∧ Var W (g15) [.bool m15, .slice ad15 n15 c15] ∧ Var W (g16) [.bool m16, .slice ad16 n16 c16] ∧ NumIs (.agg #[.bool m11, .slice ad11 n11 c11]) (zd) W ∧ NumIs (.agg #[.bool m12, .slice ad12 n12 c12]) (zx) W ∧ NumIs (.agg #[.bool m13, .slice ad13 n13 c13]) (zy) W ∧ NumIs (.agg #[.bool m14, .slice ad14 n14 c14]) (8589934593 * zd) W ∧ NumIs (.agg #[.bool m15, .slice ad15 n15 c15]) (zx + zd * (2 * a.x)) W ∧ NumIs (.agg #[.bool m16, .slice ad16 n16 c16]) (zy + zd * (2 * a.y)) W ∧ Grew w 3 W) _) := ⟨hS0.1, hS0.2.1, hS0.2.2.1, hS0.2.2.2.1, hS0.2.2.2.2.1, hS0.2.2.2.2.2.1, hS0.2.2.2.2.2.2.1, vn, hS0.2.2.2.2.2.2.2.1, hS0.2.2.2.2.2.2.2.2.1, hS0.2.2.2.2.2.2.2.2.2.1, hS0.2.2.2.2.2.2.2.2.2.2.1, hS0.2.2.2.2.2.2.2.2.2.2.2.1, hN, hS0.2.2.2.2.2.2.2.2.2.2.2.2⟩
    clear hS0 vn hN
    rename_i K aK
    refine aK _ _ ?_
    clear aK K
    repeat revert ‹Value›
    revert HS0
    revert ge16
    revert ge15
    revert ge14
    revert ge13
    revert ge12
    revert ge11
    revert ge10
    revert ge9
    revert W2
    revert R2y
    revert R2x
    revert Gpy
    revert Gpx
    revert Gd2y
    revert Gd2x
    revert G2y
    revert G2x
    revert Gf
    revert GD
    revert GY
    revert GX
    revert Gnfd
    revert Gfd
    revert EZ
    revert HP0
    revert HO
    revert wc
    revert aK0
    revert K0
    revert c16
    revert n16
    revert ad16
    revert m16
    revert g16
    revert c15
    revert n15
    revert ad15
    revert m15
    revert g15
    revert c14
    revert n14
    revert ad14
    revert m14
    revert g14
    revert c13
    revert n13
    revert ad13
    revert m13
    revert g13
    revert c12
    revert n12
    revert ad12
    revert m12
    revert g12
    revert c11
    revert n11
    revert ad11
    revert m11
    revert g11
    revert g10
    revert g9
    revert zd
    revert zy
    revert zx
    revert g7
    revert p
    exact hP.out⟩
end Go.Proofs.Ytojfggnimmaemaa
