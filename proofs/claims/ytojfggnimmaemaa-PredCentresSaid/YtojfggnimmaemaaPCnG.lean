/-
  The walk of the law PredCentres, part 7.
-/
import Derived.Test.YtojfggnimmaemaaPCnF
namespace Go.Proofs.Ytojfggnimmaemaa
open Go.RowKit

set_option maxHeartbeats 32000000 in
set_option maxRecDepth 100000 in
noncomputable def pcG (a b c : Pt) (w : World) : {P : Prop // Tail P → (pcF a b c w).val} := ⟨_, fun hP => by
    intro p re g7 zx zy zd g9 g10 g11 m11 ad11 n11 c11 g12 m12 ad12 n12 c12 g13 m13 ad13 n13 c13 wc hfz hpp hee GX GY AX AY BD hz hK HF EZ W2 GD ge9 ge10 ge11 ge12 ge13 HS0
    intros
    have HO := hi (out_is hz hfz)
    have HP0 : Hid (p = ⟨0, 0⟩) := hpp
    obtain rfl : re = 10 := hee
    have hfar : Ab (8589934593 : Int) 8589934593 := by unfold Ab; omega
    have Gf := hi (hfar.big (by decide))
    have Gfd := hi ((hfar.mul BD).big (by decide))
    have Gnfd : Hid (-BIG < -(8589934593 * zd) ∧ -(8589934593 * zd) < BIG) := by have := Gfd.out; unfold Hid; omega
    have h2x : Ab (2 * a.x) 8589934592 := by have := hK.1; unfold Ab at *; omega
    have h2y : Ab (2 * a.y) 8589934592 := by have := hK.2; unfold Ab at *; omega
    have G2x := hi (h2x.big (by decide))
    have G2y := hi (h2y.big (by decide))
    have Gd2x := hi ((BD.mul h2x).big (by decide))
    have Gd2y := hi ((BD.mul h2y).big (by decide))
    have Gpx := hi ((AX.add (BD.mul h2x)).big (by decide))
    have Gpy := hi ((AY.add (BD.mul h2y)).big (by decide))
    have R2x := hi (show -9223372036854775808 ≤ 2 * a.x ∧ 2 * a.x ≤ 9223372036854775807 by unfold Ab at h2x; omega)
    have R2y := hi (show -9223372036854775808 ≤ 2 * a.y ∧ 2 * a.y ≤ 9223372036854775807 by unfold Ab at h2y; omega)
    clear hpp hfz hfar h2x h2y AX AY BD hz hK HF
    go_upto_region 12 with (fail)
    go_cut [14] (fun pv W => ∃ g14 : Nat, ∃ (m14 : Bool) (ad14 : Option Addr) (n14 c14 : Nat), pv = .pointer (some ⟨g14, 0, none⟩) ∧ (w.heap.size + 3 ≤ g14) ∧ Var W (g14) [.bool m14, .slice ad14 n14 c14] ∧ NumIs (.agg #[.bool m14, .slice ad14 n14 c14]) (8589934593 * zd) W ∧ (fun W => Var W (w.heap.size) [.int .i64 a.x, .int .i64 a.y] ∧ Var W (g7) [.int .i64 p.x, .int .i64 p.y] ∧ Var W (g11) [.bool m11, .slice ad11 n11 c11] ∧ Var W (g12) [.bool m12, .slice ad12 n12 c12] ∧ Var W (g13) [.bool m13, .slice ad13 n13 c13] ∧ NumIs (.agg #[.bool m11, .slice ad11 n11 c11]) (zd) W ∧ NumIs (.agg #[.bool m12, .slice ad12 n12 c12]) (zx) W ∧ NumIs (.agg #[.bool m13, .slice ad13 n13 c13]) (zy) W ∧ Grew w 3 W) W)
    case first =>
      clear HO EZ
      refine wp_region_bel (by kernel_rfl) (fun q1 => ?_)
      revert q1
      generalize World.drew _ = W1
      intro q1
      refine tk2 (i := 1) (v := ?_) rfl (Or.inl ⟨by rfl, ?_⟩) ?_
      rotate_left
      · intro Wq hSw
        obtain ⟨k0, k1⟩ := (HS0.out.2.2.1.below hSw).two
        clear hSw
        go_simp
        all_goals (with_reducible rfl)
      try simp only [Act.put, x2, x3, x4, x5, x6, x7]
      refine ry2 (i := 0) (j := 3) rfl (fun K hK => ?_) rfl (fun K hK => ?_)
      ·go_simp
       go_at_call 37
       (with_reducible refine (small_num 8589934593 (by decide) (by decide) _).mono ?_); rintro e w1 ⟨va, rfl, hNa, hb1⟩
       obtain ⟨ma, ada, na, ca, rfl⟩ := hNa.shape
       have HNa := hi hNa
       clear hNa
       go_wp2_with fail
       refine hK.out _ _ (bl_trans q1 hb1) (fun q2 => ?_)
       clear hK K q1 hb1
       have q1 := q2
       clear q2
       try simp only [Act.put, x2, x3, x4, x5, x6, x7]
       refine ry2 (i := 2) (j := 3) rfl (fun K hK => ?_) rfl (fun K hK => ?_)
       ·go_simp
        go_at_call 36
        (with_reducible refine (times_num _ _ 8589934593 zd _ HNa.out (HS0.out.2.2.2.2.2.1.below q1) Gf.out GD.out).mono ?_); rintro e w1 ⟨vb, rfl, hNb, hb1⟩
        obtain ⟨mb, adb, nb, cb, rfl⟩ := hNb.shape
        have HNb := hi hNb
        clear hNb
        go_wp2_with fail
        refine hK.out _ _ (bl_trans q1 hb1) (fun q2 => ?_)
        clear hK K q1 hb1
        have q1 := q2
        clear q2
        try simp only [Act.put, x2, x3, x4, x5, x6, x7]
        refine ry1 (i := 3) rfl (fun K hK => ?_)
        go_simp
        refine hK.out _ _ (bel_one q1 _) (fun q2 => ?_)
        replace HNb := hi (HNb.out.below (bel_al q2 (bl_one _ _)))
        have hgeHX := q1.size
        have HX := hi (bel_var2 q1 (.bool false) (.slice none 0 0) 42)
        clear hK K q1
        have q1 := q2
        clear q2
        try simp only [Act.put, x2, x3, x4, x5, x6, x7]
        revert HNb
        revert HX
        revert q1
        generalize World.alloc _ _ = W2
        intro q1 HX HNb
        refine ry1 (i := 4) rfl (fun K hK => ?_)
        obtain ⟨k0, k1⟩ := HX.out.two
        obtain ⟨f0, f1⟩ := HX.out.free2
        go_simp
        refine hK.out _ _ (bel_set2 q1 hgeHX hgeHX _ _) (fun q2 => ?_)
        replace HNb := hi (HNb.out.res HX.out (mb) (.slice adb nb cb))
        replace HX := hi (HX.out.set2 (.bool mb) (.slice adb nb cb))
        clear hK K q1 k0 k1 f0 f1
        have q1 := q2
        clear q2
        try simp only [x5, x6, x7]
        refine wpAnyH_done (by kernel_rfl) ?_ _
        go_wp2_with fail
        go_meet
        case rel => exact ⟨_, _, _, _, _, rfl, Nat.le_trans (by have := HS0.out.2.2.2.2.2.2.2.2.sz; exact this) hgeHX, HX.out, HNb.out, ⟨HS0.out.1.below q1, HS0.out.2.1.below q1, HS0.out.2.2.1.below q1, HS0.out.2.2.2.1.below q1, HS0.out.2.2.2.2.1.below q1, HS0.out.2.2.2.2.2.1.below q1, HS0.out.2.2.2.2.2.2.1.below q1, HS0.out.2.2.2.2.2.2.2.1.below q1, HS0.out.2.2.2.2.2.2.2.2.below q1⟩⟩
       ·go_simp
        refine hK.out _ _ (bel_one q1 _) (fun q2 => ?_)
        replace HNa := hi (HNa.out.below (bel_al q2 (bl_one _ _)))
        have hgeHX := q1.size
        have HX := hi (bel_var2 q1 (.bool false) (.slice none 0 0) 42)
        clear hK K q1
        have q1 := q2
        clear q2
        try simp only [Act.put, x2, x3, x4, x5, x6, x7]
        revert HNa
        revert HX
        revert q1
        generalize World.alloc _ _ = W2
        intro q1 HX HNa
        refine ry1 (i := 2) rfl (fun K hK => ?_)
        go_simp
        go_at_call 36
        (with_reducible refine (times_num _ _ 8589934593 zd _ HNa.out (HS0.out.2.2.2.2.2.1.below q1) Gf.out GD.out).mono ?_); rintro e w1 ⟨vb, rfl, hNb, hb1⟩
        obtain ⟨mb, adb, nb, cb, rfl⟩ := hNb.shape
        have HNb := hi hNb
        clear hNb
        go_wp2_with fail
        refine hK.out _ _ (bl_trans q1 hb1) (fun q2 => ?_)
        replace HX := hi (HX.out.below hb1)
        clear hK K q1 hb1
        have q1 := q2
        clear q2
        try simp only [Act.put, x2, x3, x4, x5, x6, x7]
        refine ry1 (i := 4) rfl (fun K hK => ?_)
        obtain ⟨k0, k1⟩ := HX.out.two
        obtain ⟨f0, f1⟩ := HX.out.free2
        go_simp
        refine hK.out _ _ (bel_set2 q1 hgeHX hgeHX _ _) (fun q2 => ?_)
        replace HNb := hi (HNb.out.res HX.out (mb) (.slice adb nb cb))
        replace HX := hi (HX.out.set2 (.bool mb) (.slice adb nb cb))
        clear hK K q1 k0 k1 f0 f1
        have q1 := q2
        clear q2
        try simp only [x5, x6, x7]
        refine wpAnyH_done (by kernel_rfl) ?_ _
        go_wp2_with fail
        go_meet
        case rel => exact ⟨_, _, _, _, _, rfl, Nat.le_trans (by have := HS0.out.2.2.2.2.2.2.2.2.sz; exact this) hgeHX, HX.out, HNb.out, ⟨HS0.out.1.below q1, HS0.out.2.1.below q1, HS0.out.2.2.1.below q1, HS0.out.2.2.2.1.below q1, HS0.out.2.2.2.2.1.below q1, HS0.out.2.2.2.2.2.1.below q1, HS0.out.2.2.2.2.2.2.1.below q1, HS0.out.2.2.2.2.2.2.2.1.below q1, HS0.out.2.2.2.2.2.2.2.2.below q1⟩⟩
      ·go_simp
       refine hK.out _ _ (bel_one q1 _) (fun q2 => ?_)
       have hgeHX := q1.size
       have HX := hi (bel_var2 q1 (.bool false) (.slice none 0 0) 42)
       clear hK K q1
       have q1 := q2
       clear q2
       try simp only [Act.put, x2, x3, x4, x5, x6, x7]
       revert HX
       revert q1
       generalize World.alloc _ _ = W2
       intro q1 HX
       refine ry1 (i := 0) rfl (fun K hK => ?_)
       go_simp
       go_at_call 37
       (with_reducible refine (small_num 8589934593 (by decide) (by decide) _).mono ?_); rintro e w1 ⟨va, rfl, hNa, hb1⟩
       obtain ⟨ma, ada, na, ca, rfl⟩ := hNa.shape
       have HNa := hi hNa
       clear hNa
       go_wp2_with fail
       refine hK.out _ _ (bl_trans q1 hb1) (fun q2 => ?_)
       replace HX := hi (HX.out.below hb1)
       clear hK K q1 hb1
       have q1 := q2
       clear q2
       try simp only [Act.put, x2, x3, x4, x5, x6, x7]
       refine ry1 (i := 2) rfl (fun K hK => ?_)
       go_simp
       go_at_call 36
       (with_reducible refine (times_num _ _ 8589934593 zd _ HNa.out (HS0.out.2.2.2.2.2.1.below q1) Gf.out GD.out).mono ?_); rintro e w1 ⟨vb, rfl, hNb, hb1⟩
       obtain ⟨mb, adb, nb, cb, rfl⟩ := hNb.shape
       have HNb := hi hNb
       clear hNb
       go_wp2_with fail
       refine hK.out _ _ (bl_trans q1 hb1) (fun q2 => ?_)
       replace HX := hi (HX.out.below hb1)
       clear hK K q1 hb1
       have q1 := q2
       clear q2
       try simp only [Act.put, x2, x3, x4, x5, x6, x7]
       refine ry1 (i := 4) rfl (fun K hK => ?_)
       obtain ⟨k0, k1⟩ := HX.out.two
       obtain ⟨f0, f1⟩ := HX.out.free2
       go_simp
       refine hK.out _ _ (bel_set2 q1 hgeHX hgeHX _ _) (fun q2 => ?_)
       replace HNb := hi (HNb.out.res HX.out (mb) (.slice adb nb cb))
       replace HX := hi (HX.out.set2 (.bool mb) (.slice adb nb cb))
       clear hK K q1 k0 k1 f0 f1
       have q1 := q2
       clear q2
       try simp only [x5, x6, x7]
       refine wpAnyH_done (by kernel_rfl) ?_ _
       go_wp2_with fail
       go_meet
       case rel => exact ⟨_, _, _, _, _, rfl, Nat.le_trans (by have := HS0.out.2.2.2.2.2.2.2.2.sz; exact this) hgeHX, HX.out, HNb.out, ⟨HS0.out.1.below q1, HS0.out.2.1.below q1, HS0.out.2.2.1.below q1, HS0.out.2.2.2.1.below q1, HS0.out.2.2.2.2.1.below q1, HS0.out.2.2.2.2.2.1.below q1, HS0.out.2.2.2.2.2.2.1.below q1, HS0.out.2.2.2.2.2.2.2.1.below q1, HS0.out.2.2.2.2.2.2.2.2.below q1⟩⟩
    case rest =>
    obtain ⟨g14, m14, ad14, n14, c14, rfl, ge14, vn, hN, hS0⟩ := hcut
    clear HS0
    have HS0 : Hid ((fun W => Var W (w.heap.size) [.int .i64 a.x, .int .i64 a.y] ∧ Var W (g7) [.int .i64 p.x, .int .i64 p.y] ∧ Var W (g11) [.bool m11, .slice ad11 n11 c11] ∧ Var W (g12) [.bool m12, .slice ad12 n12 c12] ∧ Var W (g13) [.bool m13, .slice ad13 n13 c13] ∧ Var W (g14) [.bool m14, .slice ad14 n14 c14] ∧ NumIs (.agg #[.bool m11, .slice ad11 n11 c11]) (zd) W ∧ NumIs (.agg #[.bool m12, .slice ad12 n12 c12]) (zx) W ∧ NumIs (.agg #[.bool m13, .slice ad13 n13 c13]) (zy) W ∧ NumIs (.agg #[.bool m14, .slice ad14 n14 c14]) (8589934593 * zd) W ∧ Grew w 3 W) _) := ⟨hS0.1, hS0.2.1, hS0.2.2.1, hS0.2.2.2.1, hS0.2.2.2.2.1, vn, hS0.2.2.2.2.2.1, hS0.2.2.2.2.2.2.1, hS0.2.2.2.2.2.2.2.1, hN, hS0.2.2.2.2.2.2.2.2⟩
    clear hS0 vn hN
    rename_i K0 aK0 K aK
    refine aK _ _ ?_
    clear aK K
    repeat revert ‹Value›
    revert HS0
    revert ge14
    revert ge13
    revert ge12
    revert ge11
    revert ge10
    revert ge9
    revert W2
    revert R2y
    revert R2x
    revert Gpy
    revert Gpx
    revert Gd2y
    revert Gd2x
    revert G2y
    revert G2x
    revert Gf
    revert GD
    revert GY
    revert GX
    revert Gnfd
    revert Gfd
    revert EZ
    revert HP0
    revert HO
    revert wc
    revert aK0
    revert K0
    revert c14
    revert n14
    revert ad14
    revert m14
    revert g14
    revert c13
    revert n13
    revert ad13
    revert m13
    revert g13
    revert c12
    revert n12
    revert ad12
    revert m12
    revert g12
    revert c11
    revert n11
    revert ad11
    revert m11
    revert g11
    revert g10
    revert g9
    revert zd
    revert zy
    revert zx
    revert g7
    revert p
    exact hP.out⟩
end Go.Proofs.Ytojfggnimmaemaa
