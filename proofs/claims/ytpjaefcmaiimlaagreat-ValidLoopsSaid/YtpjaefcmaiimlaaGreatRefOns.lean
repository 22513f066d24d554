/-
  Contracts of the document's on, On, Inside.
-/
import Derived.Test.YtpjaefcmaiimlaaGreatAreas
import Derived.Test.YtpjaefcmaiimlaaGreatMoved
import Derived.Test.YtpjaefcmaiimlaaGreatGeoMath
set_option linter.unusedVariables false
set_option linter.unusedSimpArgs false
set_option linter.deprecated false
namespace Go.Proofs.YtpjaefcmaiimlaaGreat
open Go.RowKit

theorem wrap_r (x : Int) : R64 (IntKind.i64.wrap x) := by rw [IntKind.wrap_i64]; unfold R64; omega
theorem small_r (z : Int) (h : R64 z) (w : World) : Calls Tryz.prog 94 #[.int .i64 z] w fun e w' => ∃ v, e = .returned v ∧ NumIs v z w' ∧ Below w.heap.size w w' := small_num z h.1 h.2 w
theorem R64.ab {x : Int} (h : R64 x) : Ab x 9223372036854775808 := by unfold R64 at h; unfold Ab; omega
theorem on_is (a b p : Pt) (z : Int) (hz : fitB a = true → fitB b = true → fitB p = true → z = - dotZ a b p) :
    (!(eqB a b) && fitB a && fitB b && fitB p && decide (orientZ a b p = 0) && decide (0 ≤ sg3 z)) = onB a b p := by
  unfold onB properB
  cases hab : eqB a b
  case true => simp
  case false =>
  cases fa : fitB a
  case false => simp
  case true =>
  cases fb : fitB b
  case false => simp
  case true =>
  cases fp : fitB p
  case false =>
    have n1 : eqB p a = false := by
      cases h : eqB p a
      · rfl
      · rw [eqB_iff.1 h, fa] at fp; cases fp
    have n2 : eqB p b = false := by
      cases h : eqB p b
      · rfl
      · rw [eqB_iff.1 h, fb] at fp; cases fp
    rw [n1, n2]
    unfold insideB discB
    rw [fp]
    simp
  case true =>
  rw [hz fa fb fp, sg3_neg]
  have hs : decide (0 ≤ - sg3 (dotZ a b p)) = decide (dotZ a b p ≤ 0) := by
    rcases sg3_vals (dotZ a b p) with ⟨h, e⟩ | ⟨h, e⟩ | ⟨h, e⟩ <;> rw [e] <;> simp <;> omega
  rw [hs]
  cases h1 : eqB p a
  case true =>
    obtain rfl := eqB_iff.1 h1
    have : dotZ p b p = 0 := by unfold dotZ; simp
    rw [orient_aba, this]; rfl
  case false =>
  cases h2 : eqB p b
  case true =>
    obtain rfl := eqB_iff.1 h2
    have h3 : dotZ a p p = 0 := by unfold dotZ; simp
    have h4 : orientZ a p p = 0 := by rw [orient_flip, orient_flip, Int.neg_neg, ← orient_rot, orient_aab]
    rw [h4, h3]; rfl
  case false =>
    unfold insideB discB
    unfold eqB at h1 h2
    rw [fa, fb, fp, h1, h2]
    rfl

set_option maxHeartbeats 8000000 in
set_option maxRecDepth 100000 in
theorem refOn_l (a b p : Pt) (w : World) : Calls Tryz.prog 71 #[.agg #[.int .i64 a.x, .int .i64 a.y], .agg #[.int .i64 b.x, .int .i64 b.y], .agg #[.int .i64 p.x, .int .i64 p.y]] w (Gives (.bool (onB a b p)) w) := by
  have q := eqPt' a b
  have C1 := hi (fun W => refFits_l a W)
  have C2 := hi (fun W => refFits_l b W)
  have C3 := hi (fun W => refFits_l p W)
  have C4 := hi (fun W => refOrient_l a b p W)
  obtain ⟨x1, hx1, gx1⟩ : ∃ x, IntKind.i64.wrap (p.x - a.x) = x ∧ (fitB a = true → fitB p = true → x = p.x - a.x) := ⟨_, rfl, fun h k => wr (by have := fit_b h; have := fit_b k; omega)⟩
  obtain ⟨x2, hx2, gx2⟩ : ∃ x, IntKind.i64.wrap (b.x - p.x) = x ∧ (fitB b = true → fitB p = true → x = b.x - p.x) := ⟨_, rfl, fun h k => wr (by have := fit_b h; have := fit_b k; omega)⟩
  obtain ⟨y1, hy1, gy1⟩ : ∃ x, IntKind.i64.wrap (p.y - a.y) = x ∧ (fitB a = true → fitB p = true → x = p.y - a.y) := ⟨_, rfl, fun h k => wr (by have := fit_b h; have := fit_b k; omega)⟩
  obtain ⟨y2, hy2, gy2⟩ : ∃ x, IntKind.i64.wrap (b.y - p.y) = x ∧ (fitB b = true → fitB p = true → x = b.y - p.y) := ⟨_, rfl, fun h k => wr (by have := fit_b h; have := fit_b k; omega)⟩
  have Rx1 : Hid (R64 x1) := by have := wrap_r (p.x - a.x); rw [hx1] at this; exact this
  have Rx2 : Hid (R64 x2) := by have := wrap_r (b.x - p.x); rw [hx2] at this; exact this
  have Ry1 : Hid (R64 y1) := by have := wrap_r (p.y - a.y); rw [hy1] at this; exact this
  have Ry2 : Hid (R64 y2) := by have := wrap_r (b.y - p.y); rw [hy2] at this; exact this
  have Bx1 := hi (Rx1.out.ab.big (by decide))
  have Bx2 := hi (Rx2.out.ab.big (by decide))
  have By1 := hi (Ry1.out.ab.big (by decide))
  have By2 := hi (Ry2.out.ab.big (by decide))
  have BX := hi ((Rx1.out.ab.mul Rx2.out.ab).big (by decide))
  have BY := hi ((Ry1.out.ab.mul Ry2.out.ab).big (by decide))
  have HP : Hid (onB a b p = (!(eqB a b) && fitB a && fitB b && fitB p && decide (orientZ a b p = 0) && decide (0 ≤ sg3 (x1 * x2 + y1 * y2)))) :=
    (on_is a b p _ (fun fa fb fp => by rw [gx1 fa fp, gx2 fb fp, gy1 fa fp, gy2 fb fp]; unfold dotZ; grind)).symm
  clear gx1 gx2 gy1 gy2
  generalize eqB a b = ne at *
  generalize fitB a = fa at *
  generalize fitB b = fb at *
  generalize fitB p = fp at *
  generalize orientZ a b p = o at *
  go_enter Tryz.func71, Tryz.ntmps71
  go_upto_region 1 with (fail)
  refine wp_abs (fun W => Var W (w.heap.size) [.int .i64 a.x, .int .i64 a.y] ∧ Var W (w.heap.size + 1) [.int .i64 b.x, .int .i64 b.y] ∧ Var W (w.heap.size + 1 + 1) [.int .i64 p.x, .int .i64 p.y] ∧ Grew w 3 W) ?_ ?_
  · exact ⟨(var2_new _ _ _ _ _ rfl).below (bl_alloc (bl_one _ _) _), (var2_new _ _ _ _ _ (by simp)).below (bl_one _ _), var2_new _ _ _ _ _ (by simp), by repeat (first | (with_reducible exact Below.refl _ _) | (with_reducible refine bl_alloc ?_ _) | (with_reducible refine Below.drew ?_) | (with_reducible refine below_drewN' ?_ _) | ((with_reducible refine bl_set ?_ ?_ _); (rotate_left; (dsimp only; omega)))), by simp⟩
  rintro W0 hS0
  have HS0 := hi hS0
  clear hS0
  go_cut [7] (fun x W => ∃ g mm am nm cm, x = .pointer (some ⟨g, 0, none⟩) ∧ Var W g [.bool mm, .slice am nm cm] ∧ NumIs (.agg #[.bool mm, .slice am nm cm]) (x1 * x2 + y1 * y2) W ∧ (fun W => Var W (w.heap.size) [.int .i64 a.x, .int .i64 a.y] ∧ Var W (w.heap.size + 1) [.int .i64 b.x, .int .i64 b.y] ∧ Var W (w.heap.size + 1 + 1) [.int .i64 p.x, .int .i64 p.y] ∧ Grew w 3 W) W)
  case first =>
    refine wp_region_held_drew (S := fun W => Var W (w.heap.size) [.int .i64 a.x, .int .i64 a.y] ∧ Var W (w.heap.size + 1) [.int .i64 b.x, .int .i64 b.y] ∧ Var W (w.heap.size + 1 + 1) [.int .i64 p.x, .int .i64 p.y] ∧ Grew w 3 W) (by kernel_rfl) ?_ (fun q1 => ?_)
    · exact ⟨HS0.out.1.below (bel_drew _), HS0.out.2.1.below (bel_drew _), HS0.out.2.2.1.below (bel_drew _), HS0.out.2.2.2.below (bel_drew _)⟩
    revert q1
    generalize World.drew _ = W1
    intro q1 
    refine tk (i := 0) (v := ?_) rfl (Or.inl ⟨by rfl, ?_⟩) ?_
    rotate_left
    · intro Wq hSw
      clear hSw
      go_simp
      all_goals (with_reducible rfl)
    try simp only [Act.put, x2, x4, x5, x6, x7]
    refine tk (i := 1) (v := ?_) rfl (Or.inl ⟨by rfl, ?_⟩) ?_
    rotate_left
    · intro Wq hSw
      obtain ⟨k0, k1⟩ := (id hSw).2.2.1.two
      clear hSw
      go_simp
      all_goals (with_reducible rfl)
    try simp only [Act.put, x2, x3, x4, x5, x6, x7]
    refine tk (i := 2) (v := ?_) rfl (Or.inl ⟨by rfl, ?_⟩) ?_
    rotate_left
    · intro Wq hSw
      clear hSw
      go_simp
      all_goals (with_reducible rfl)
    try simp only [Act.put, x2, x3, x4, x5, x6, x7]
    refine tk (i := 3) (v := ?_) rfl (Or.inl ⟨by rfl, ?_⟩) ?_
    rotate_left
    · intro Wq hSw
      obtain ⟨k0, k1⟩ := (id hSw).1.two
      clear hSw
      go_simp
      all_goals (with_reducible rfl)
    try simp only [Act.put, x2, x3, x4, x5, x6, x7]
    refine tk (i := 4) (v := ?_) rfl (Or.inl ⟨by rfl, ?_⟩) ?_
    rotate_left
    · intro Wq hSw
      clear hSw
      go_simp
      all_goals (with_reducible rfl)
    try simp only [Act.put, x2, x3, x4, x5, x6, x7]
    refine tk (i := 6) (v := ?_) rfl (Or.inl ⟨by rfl, ?_⟩) ?_
    rotate_left
    · intro Wq hSw
      clear hSw
      go_simp
      all_goals (with_reducible rfl)
    try simp only [Act.put, x2, x3, x4, x5, x6, x7]
    refine tk (i := 7) (v := ?_) rfl (Or.inl ⟨by rfl, ?_⟩) ?_
    rotate_left
    · intro Wq hSw
      obtain ⟨k0, k1⟩ := (id hSw).2.1.two
      clear hSw
      go_simp
      all_goals (with_reducible rfl)
    try simp only [Act.put, x2, x3, x4, x5, x6, x7]
    refine tk (i := 8) (v := ?_) rfl (Or.inl ⟨by rfl, ?_⟩) ?_
    rotate_left
    · intro Wq hSw
      clear hSw
      go_simp
      all_goals (with_reducible rfl)
    try simp only [Act.put, x2, x3, x4, x5, x6, x7]
    refine tk (i := 9) (v := ?_) rfl (Or.inl ⟨by rfl, ?_⟩) ?_
    rotate_left
    · intro Wq hSw
      obtain ⟨k0, k1⟩ := (id hSw).2.2.1.two
      clear hSw
      go_simp
      all_goals (with_reducible rfl)
    try simp only [Act.put, x2, x3, x4, x5, x6, x7]
    refine tk (i := 10) (v := ?_) rfl (Or.inl ⟨by rfl, ?_⟩) ?_
    rotate_left
    · intro Wq hSw
      clear hSw
      go_simp
      all_goals (with_reducible rfl)
    try simp only [Act.put, x2, x3, x4, x5, x6, x7]
    refine tk (i := 13) (v := ?_) rfl (Or.inl ⟨by rfl, ?_⟩) ?_
    rotate_left
    · intro Wq hSw
      clear hSw
      go_simp
      all_goals (with_reducible rfl)
    try simp only [Act.put, x2, x3, x4, x5, x6, x7]
    refine tk (i := 14) (v := ?_) rfl (Or.inl ⟨by rfl, ?_⟩) ?_
    rotate_left
    · intro Wq hSw
      obtain ⟨k0, k1⟩ := (id hSw).2.2.1.two
      clear hSw
      go_simp
      all_goals (with_reducible rfl)
    try simp only [Act.put, x2, x3, x4, x5, x6, x7]
    refine tk (i := 15) (v := ?_) rfl (Or.inl ⟨by rfl, ?_⟩) ?_
    rotate_left
    · intro Wq hSw
      clear hSw
      go_simp
      all_goals (with_reducible rfl)
    try simp only [Act.put, x2, x3, x4, x5, x6, x7]
    refine tk (i := 16) (v := ?_) rfl (Or.inl ⟨by rfl, ?_⟩) ?_
    rotate_left
    · intro Wq hSw
      obtain ⟨k0, k1⟩ := (id hSw).1.two
      clear hSw
      go_simp
      all_goals (with_reducible rfl)
    try simp only [Act.put, x2, x3, x4, x5, x6, x7]
    refine tk (i := 17) (v := ?_) rfl (Or.inl ⟨by rfl, ?_⟩) ?_
    rotate_left
    · intro Wq hSw
      clear hSw
      go_simp
      all_goals (with_reducible rfl)
    try simp only [Act.put, x2, x3, x4, x5, x6, x7]
    refine tk (i := 19) (v := ?_) rfl (Or.inl ⟨by rfl, ?_⟩) ?_
    rotate_left
    · intro Wq hSw
      clear hSw
      go_simp
      all_goals (with_reducible rfl)
    try simp only [Act.put, x2, x3, x4, x5, x6, x7]
    refine tk (i := 20) (v := ?_) rfl (Or.inl ⟨by rfl, ?_⟩) ?_
    rotate_left
    · intro Wq hSw
      obtain ⟨k0, k1⟩ := (id hSw).2.1.two
      clear hSw
      go_simp
      all_goals (with_reducible rfl)
    try simp only [Act.put, x2, x3, x4, x5, x6, x7]
    refine tk (i := 21) (v := ?_) rfl (Or.inl ⟨by rfl, ?_⟩) ?_
    rotate_left
    · intro Wq hSw
      clear hSw
      go_simp
      all_goals (with_reducible rfl)
    try simp only [Act.put, x2, x3, x4, x5, x6, x7]
    refine tk (i := 22) (v := ?_) rfl (Or.inl ⟨by rfl, ?_⟩) ?_
    rotate_left
    · intro Wq hSw
      obtain ⟨k0, k1⟩ := (id hSw).2.2.1.two
      clear hSw
      go_simp
      all_goals (with_reducible rfl)
    try simp only [Act.put, x2, x3, x4, x5, x6, x7]
    refine tk (i := 23) (v := ?_) rfl (Or.inl ⟨by rfl, ?_⟩) ?_
    rotate_left
    · intro Wq hSw
      clear hSw
      go_simp
      all_goals (with_reducible rfl)
    try simp only [Act.put, x2, x3, x4, x5, x6, x7]
    refine r2 (i := 5) (j := 27) rfl (fun K hK => ?_) rfl (fun K hK => ?_)
    · go_simp
      go_at_call 94
      (with_reducible refine (small_r x1 Rx1.out _).mono ?_); rintro e w1 ⟨va0, rfl, hNa0, hb1⟩
      obtain ⟨ma0, ada0, na0, ca0, rfl⟩ := hNa0.shape
      have HNa0 := hi hNa0
      clear hNa0
      go_wp2_with fail
      refine hK.out _ _ ?_ (fun q2 => ?_)
      · exact ⟨(id q1).1.below hb1, (id q1).2.1.below hb1, (id q1).2.2.1.below hb1, (id q1).2.2.2.below hb1⟩
      clear hK K q1 hb1
      have q1 := q2
      clear q2
      try simp only [Act.put, x2, x3, x4, x5, x6, x7]
      refine r2 (i := 11) (j := 27) rfl (fun K hK => ?_) rfl (fun K hK => ?_)
      · go_simp
        go_at_call 94
        (with_reducible refine (small_r x2 Rx2.out _).mono ?_); rintro e w1 ⟨va1, rfl, hNa1, hb1⟩
        obtain ⟨ma1, ada1, na1, ca1, rfl⟩ := hNa1.shape
        have HNa1 := hi hNa1
        clear hNa1
        go_wp2_with fail
        refine hK.out _ _ ?_ (fun q2 => ?_)
        · exact ⟨(id q1).1.below hb1, (id q1).2.1.below hb1, (id q1).2.2.1.below hb1, (id q1).2.2.2.below hb1⟩
        replace HNa0 := hi (HNa0.out.below hb1)
        clear hK K q1 hb1
        have q1 := q2
        clear q2
        try simp only [Act.put, x2, x3, x4, x5, x6, x7]
        refine r2 (i := 12) (j := 27) rfl (fun K hK => ?_) rfl (fun K hK => ?_)
        · go_simp
          go_at_call 95
          (with_reducible refine (times_num _ _ x1 x2 _ HNa0.out HNa1.out Bx1.out Bx2.out).mono ?_); rintro e w1 ⟨va, rfl, hNa, hb1⟩
          obtain ⟨ma, ada, na, ca, rfl⟩ := hNa.shape
          have HNa := hi hNa
          clear hNa
          go_wp2_with fail
          refine hK.out _ _ ?_ (fun q2 => ?_)
          · exact ⟨(id q1).1.below hb1, (id q1).2.1.below hb1, (id q1).2.2.1.below hb1, (id q1).2.2.2.below hb1⟩
          replace HNa0 := hi (HNa0.out.below hb1)
          replace HNa1 := hi (HNa1.out.below hb1)
          clear hK K q1 hb1
          have q1 := q2
          clear q2
          try simp only [Act.put, x2, x3, x4, x5, x6, x7]
          refine r2 (i := 18) (j := 27) rfl (fun K hK => ?_) rfl (fun K hK => ?_)
          · go_simp
            go_at_call 94
            (with_reducible refine (small_r y1 Ry1.out _).mono ?_); rintro e w1 ⟨vb0, rfl, hNb0, hb1⟩
            obtain ⟨mb0, adb0, nb0, cb0, rfl⟩ := hNb0.shape
            have HNb0 := hi hNb0
            clear hNb0
            go_wp2_with fail
            refine hK.out _ _ ?_ (fun q2 => ?_)
            · exact ⟨(id q1).1.below hb1, (id q1).2.1.below hb1, (id q1).2.2.1.below hb1, (id q1).2.2.2.below hb1⟩
            replace HNa0 := hi (HNa0.out.below hb1)
            replace HNa1 := hi (HNa1.out.below hb1)
            replace HNa := hi (HNa.out.below hb1)
            clear hK K q1 hb1
            have q1 := q2
            clear q2
            try simp only [Act.put, x2, x3, x4, x5, x6, x7]
            refine r2 (i := 24) (j := 27) rfl (fun K hK => ?_) rfl (fun K hK => ?_)
            · go_simp
              go_at_call 94
              (with_reducible refine (small_r y2 Ry2.out _).mono ?_); rintro e w1 ⟨vb1, rfl, hNb1, hb1⟩
              obtain ⟨mb1, adb1, nb1, cb1, rfl⟩ := hNb1.shape
              have HNb1 := hi hNb1
              clear hNb1
              go_wp2_with fail
              refine hK.out _ _ ?_ (fun q2 => ?_)
              · exact ⟨(id q1).1.below hb1, (id q1).2.1.below hb1, (id q1).2.2.1.below hb1, (id q1).2.2.2.below hb1⟩
              replace HNa0 := hi (HNa0.out.below hb1)
              replace HNa1 := hi (HNa1.out.below hb1)
              replace HNa := hi (HNa.out.below hb1)
              replace HNb0 := hi (HNb0.out.below hb1)
              clear hK K q1 hb1
              have q1 := q2
              clear q2
              try simp only [Act.put, x2, x3, x4, x5, x6, x7]
              refine r2 (i := 25) (j := 27) rfl (fun K hK => ?_) rfl (fun K hK => ?_)
              · go_simp
                go_at_call 95
                (with_reducible refine (times_num _ _ y1 y2 _ HNb0.out HNb1.out By1.out By2.out).mono ?_); rintro e w1 ⟨vb, rfl, hNb, hb1⟩
                obtain ⟨mb, adb, nb, cb, rfl⟩ := hNb.shape
                have HNb := hi hNb
                clear hNb
                go_wp2_with fail
                refine hK.out _ _ ?_ (fun q2 => ?_)
                · exact ⟨(id q1).1.below hb1, (id q1).2.1.below hb1, (id q1).2.2.1.below hb1, (id q1).2.2.2.below hb1⟩
                replace HNa0 := hi (HNa0.out.below hb1)
                replace HNa1 := hi (HNa1.out.below hb1)
                replace HNa := hi (HNa.out.below hb1)
                replace HNb0 := hi (HNb0.out.below hb1)
                replace HNb1 := hi (HNb1.out.below hb1)
                clear hK K q1 hb1
                have q1 := q2
                clear q2
                try simp only [Act.put, x2, x3, x4, x5, x6, x7]
                refine r2 (i := 26) (j := 27) rfl (fun K hK => ?_) rfl (fun K hK => ?_)
                · go_simp
                  go_at_call 96
                  (with_reducible refine (plus_c _ _ (x1 * x2) (y1 * y2) _ HNa.out HNb.out BX.out BY.out).mono ?_); rintro e w1 ⟨vs, rfl, hNs, hb1⟩
                  obtain ⟨ms, ads, ns, cs, rfl⟩ := hNs.shape
                  have HNs := hi hNs
                  clear hNs
                  go_wp2_with fail
                  refine hK.out _ _ ?_ (fun q2 => ?_)
                  · exact ⟨(id q1).1.below hb1, (id q1).2.1.below hb1, (id q1).2.2.1.below hb1, (id q1).2.2.2.below hb1⟩
                  replace HNa0 := hi (HNa0.out.below hb1)
                  replace HNa1 := hi (HNa1.out.below hb1)
                  replace HNa := hi (HNa.out.below hb1)
                  replace HNb0 := hi (HNb0.out.below hb1)
                  replace HNb1 := hi (HNb1.out.below hb1)
                  replace HNb := hi (HNb.out.below hb1)
                  clear hK K q1 hb1
                  have q1 := q2
                  clear q2
                  try simp only [Act.put, x2, x3, x4, x5, x6, x7]
                  refine r1 (i := 27) rfl (fun K hK => ?_)
                  go_simp
                  refine hK.out _ _ ?_ (fun q2 => ?_)
                  · exact ⟨(id q1).1.below (bl_one _ _), (id q1).2.1.below (bl_one _ _), (id q1).2.2.1.below (bl_one _ _), (id q1).2.2.2.below (bl_one _ _)⟩
                  replace HNa0 := hi (HNa0.out.below (al_of (id q2).2.2.2 (bl_one _ _)))
                  replace HNa1 := hi (HNa1.out.below (al_of (id q2).2.2.2 (bl_one _ _)))
                  replace HNa := hi (HNa.out.below (al_of (id q2).2.2.2 (bl_one _ _)))
                  replace HNb0 := hi (HNb0.out.below (al_of (id q2).2.2.2 (bl_one _ _)))
                  replace HNb1 := hi (HNb1.out.below (al_of (id q2).2.2.2 (bl_one _ _)))
                  replace HNb := hi (HNb.out.below (al_of (id q2).2.2.2 (bl_one _ _)))
                  replace HNs := hi (HNs.out.below (al_of (id q2).2.2.2 (bl_one _ _)))
                  have hgeHT := (id q1).2.2.2.sz
                  have HT := hi ((id q1).2.2.2.var2 (.bool false) (.slice none 0 0) 123)
                  clear hK K q1
                  have q1 := q2
                  clear q2
                  try simp only [Act.put, x2, x3, x4, x5, x6, x7]
                  revert HNa0
                  revert HNa1
                  revert HNa
                  revert HNb0
                  revert HNb1
                  revert HNb
                  revert HNs
                  revert HT
                  revert q1
                  generalize World.alloc _ _ = W2
                  intro q1 HT HNs HNb HNb1 HNb0 HNa HNa1 HNa0
                  refine r1 (i := 28) rfl (fun K hK => ?_)
                  obtain ⟨k0, k1⟩ := HT.out.two
                  obtain ⟨f0, f1⟩ := HT.out.free2
                  go_simp
                  refine hK.out _ _ ?_ (fun q2 => ?_)
                  · exact ⟨(((id q1).1.far (by dsimp only; omega) _).far (by dsimp only; omega) _), (((id q1).2.1.far (by dsimp only; omega) _).far (by dsimp only; omega) _), (((id q1).2.2.1.far (by dsimp only; omega) _).far (by dsimp only; omega) _), (((id q1).2.2.2.set (by dsimp only; omega) _).set (by dsimp only; omega) _)⟩
                  replace HNa0 := hi (HNa0.out.res HT.out (ms) (.slice ads ns cs))
                  replace HNa1 := hi (HNa1.out.res HT.out (ms) (.slice ads ns cs))
                  replace HNa := hi (HNa.out.res HT.out (ms) (.slice ads ns cs))
                  replace HNb0 := hi (HNb0.out.res HT.out (ms) (.slice ads ns cs))
                  replace HNb1 := hi (HNb1.out.res HT.out (ms) (.slice ads ns cs))
                  replace HNb := hi (HNb.out.res HT.out (ms) (.slice ads ns cs))
                  replace HNs := hi (HNs.out.res HT.out (ms) (.slice ads ns cs))
                  replace HT := hi (HT.out.set2 (.bool ms) (.slice ads ns cs))
                  clear hK K q1 k0 k1 f0 f1
                  have q1 := q2
                  clear q2
                  try simp only [Act.put, x2, x3, x4, x5, x6, x7]
                  refine wpAnyH_done (by kernel_rfl) ?_ _
                  go_wp2_with fail
                  go_meet
                  case rel => exact ⟨_, _, _, _, _, rfl, HT.out, HNs.out, id q1⟩
                · go_simp
                  refine hK.out _ _ ?_ (fun q2 => ?_)
                  · exact ⟨(id q1).1.below (bl_one _ _), (id q1).2.1.below (bl_one _ _), (id q1).2.2.1.below (bl_one _ _), (id q1).2.2.2.below (bl_one _ _)⟩
                  replace HNa0 := hi (HNa0.out.below (al_of (id q2).2.2.2 (bl_one _ _)))
                  replace HNa1 := hi (HNa1.out.below (al_of (id q2).2.2.2 (bl_one _ _)))
                  replace HNa := hi (HNa.out.below (al_of (id q2).2.2.2 (bl_one _ _)))
                  replace HNb0 := hi (HNb0.out.below (al_of (id q2).2.2.2 (bl_one _ _)))
                  replace HNb1 := hi (HNb1.out.below (al_of (id q2).2.2.2 (bl_one _ _)))
                  replace HNb := hi (HNb.out.below (al_of (id q2).2.2.2 (bl_one _ _)))
                  have hgeHT := (id q1).2.2.2.sz
                  have HT := hi ((id q1).2.2.2.var2 (.bool false) (.slice none 0 0) 123)
                  clear hK K q1
                  have q1 := q2
                  clear q2
                  try simp only [Act.put, x2, x3, x4, x5, x6, x7]
                  revert HNa0
                  revert HNa1
                  revert HNa
                  revert HNb0
                  revert HNb1
                  revert HNb
                  revert HT
                  revert q1
                  generalize World.alloc _ _ = W2
                  intro q1 HT HNb HNb1 HNb0 HNa HNa1 HNa0
                  refine r1 (i := 26) rfl (fun K hK => ?_)
                  go_simp
                  go_at_call 96
                  (with_reducible refine (plus_c _ _ (x1 * x2) (y1 * y2) _ HNa.out HNb.out BX.out BY.out).mono ?_); rintro e w1 ⟨vs, rfl, hNs, hb1⟩
                  obtain ⟨ms, ads, ns, cs, rfl⟩ := hNs.shape
                  have HNs := hi hNs
                  clear hNs
                  go_wp2_with fail
                  refine hK.out _ _ ?_ (fun q2 => ?_)
                  · exact ⟨(id q1).1.below hb1, (id q1).2.1.below hb1, (id q1).2.2.1.below hb1, (id q1).2.2.2.below hb1⟩
                  replace HNa0 := hi (HNa0.out.below hb1)
                  replace HNa1 := hi (HNa1.out.below hb1)
                  replace HNa := hi (HNa.out.below hb1)
                  replace HNb0 := hi (HNb0.out.below hb1)
                  replace HNb1 := hi (HNb1.out.below hb1)
                  replace HNb := hi (HNb.out.below hb1)
                  replace HT := hi (HT.out.below hb1)
                  clear hK K q1 hb1
                  have q1 := q2
                  clear q2
                  try simp only [Act.put, x2, x3, x4, x5, x6, x7]
                  refine r1 (i := 28) rfl (fun K hK => ?_)
                  obtain ⟨k0, k1⟩ := HT.out.two
                  obtain ⟨f0, f1⟩ := HT.out.free2
                  go_simp
                  refine hK.out _ _ ?_ (fun q2 => ?_)
                  · exact ⟨(((id q1).1.far (by dsimp only; omega) _).far (by dsimp only; omega) _), (((id q1).2.1.far (by dsimp only; omega) _).far (by dsimp only; omega) _), (((id q1).2.2.1.far (by dsimp only; omega) _).far (by dsimp only; omega) _), (((id q1).2.2.2.set (by dsimp only; omega) _).set (by dsimp only; omega) _)⟩
                  replace HNa0 := hi (HNa0.out.res HT.out (ms) (.slice ads ns cs))
                  replace HNa1 := hi (HNa1.out.res HT.out (ms) (.slice ads ns cs))
                  replace HNa := hi (HNa.out.res HT.out (ms) (.slice ads ns cs))
                  replace HNb0 := hi (HNb0.out.res HT.out (ms) (.slice ads ns cs))
                  replace HNb1 := hi (HNb1.out.res HT.out (ms) (.slice ads ns cs))
                  replace HNb := hi (HNb.out.res HT.out (ms) (.slice ads ns cs))
                  replace HNs := hi (HNs.out.res HT.out (ms) (.slice ads ns cs))
                  replace HT := hi (HT.out.set2 (.bool ms) (.slice ads ns cs))
                  clear hK K q1 k0 k1 f0 f1
                  have q1 := q2
                  clear q2
                  try simp only [Act.put, x2, x3, x4, x5, x6, x7]
                  refine wpAnyH_done (by kernel_rfl) ?_ _
                  go_wp2_with fail
                  go_meet
                  case rel => exact ⟨_, _, _, _, _, rfl, HT.out, HNs.out, id q1⟩
              · go_simp
                refine hK.out _ _ ?_ (fun q2 => ?_)
                · exact ⟨(id q1).1.below (bl_one _ _), (id q1).2.1.below (bl_one _ _), (id q1).2.2.1.below (bl_one _ _), (id q1).2.2.2.below (bl_one _ _)⟩
                replace HNa0 := hi (HNa0.out.below (al_of (id q2).2.2.2 (bl_one _ _)))
                replace HNa1 := hi (HNa1.out.below (al_of (id q2).2.2.2 (bl_one _ _)))
                replace HNa := hi (HNa.out.below (al_of (id q2).2.2.2 (bl_one _ _)))
                replace HNb0 := hi (HNb0.out.below (al_of (id q2).2.2.2 (bl_one _ _)))
                replace HNb1 := hi (HNb1.out.below (al_of (id q2).2.2.2 (bl_one _ _)))
                have hgeHT := (id q1).2.2.2.sz
                have HT := hi ((id q1).2.2.2.var2 (.bool false) (.slice none 0 0) 123)
                clear hK K q1
                have q1 := q2
                clear q2
                try simp only [Act.put, x2, x3, x4, x5, x6, x7]
                revert HNa0
                revert HNa1
                revert HNa
                revert HNb0
                revert HNb1
                revert HT
                revert q1
                generalize World.alloc _ _ = W2
                intro q1 HT HNb1 HNb0 HNa HNa1 HNa0
                refine r1 (i := 25) rfl (fun K hK => ?_)
                go_simp
                go_at_call 95
                (with_reducible refine (times_num _ _ y1 y2 _ HNb0.out HNb1.out By1.out By2.out).mono ?_); rintro e w1 ⟨vb, rfl, hNb, hb1⟩
                obtain ⟨mb, adb, nb, cb, rfl⟩ := hNb.shape
                have HNb := hi hNb
                clear hNb
                go_wp2_with fail
                refine hK.out _ _ ?_ (fun q2 => ?_)
                · exact ⟨(id q1).1.below hb1, (id q1).2.1.below hb1, (id q1).2.2.1.below hb1, (id q1).2.2.2.below hb1⟩
                replace HNa0 := hi (HNa0.out.below hb1)
                replace HNa1 := hi (HNa1.out.below hb1)
                replace HNa := hi (HNa.out.below hb1)
                replace HNb0 := hi (HNb0.out.below hb1)
                replace HNb1 := hi (HNb1.out.below hb1)
                replace HT := hi (HT.out.below hb1)
                clear hK K q1 hb1
                have q1 := q2
                clear q2
                try simp only [Act.put, x2, x3, x4, x5, x6, x7]
                refine r1 (i := 26) rfl (fun K hK => ?_)
                go_simp
                go_at_call 96
                (with_reducible refine (plus_c _ _ (x1 * x2) (y1 * y2) _ HNa.out HNb.out BX.out BY.out).mono ?_); rintro e w1 ⟨vs, rfl, hNs, hb1⟩
                obtain ⟨ms, ads, ns, cs, rfl⟩ := hNs.shape
                have HNs := hi hNs
                clear hNs
                go_wp2_with fail
                refine hK.out _ _ ?_ (fun q2 => ?_)
                · exact ⟨(id q1).1.below hb1, (id q1).2.1.below hb1, (id q1).2.2.1.below hb1, (id q1).2.2.2.below hb1⟩
                replace HNa0 := hi (HNa0.out.below hb1)
                replace HNa1 := hi (HNa1.out.below hb1)
                replace HNa := hi (HNa.out.below hb1)
                replace HNb0 := hi (HNb0.out.below hb1)
                replace HNb1 := hi (HNb1.out.below hb1)
                replace HT := hi (HT.out.below hb1)
                replace HNb := hi (HNb.out.below hb1)
                clear hK K q1 hb1
                have q1 := q2
                clear q2
                try simp only [Act.put, x2, x3, x4, x5, x6, x7]
                refine r1 (i := 28) rfl (fun K hK => ?_)
                obtain ⟨k0, k1⟩ := HT.out.two
                obtain ⟨f0, f1⟩ := HT.out.free2
                go_simp
                refine hK.out _ _ ?_ (fun q2 => ?_)
                · exact ⟨(((id q1).1.far (by dsimp only; omega) _).far (by dsimp only; omega) _), (((id q1).2.1.far (by dsimp only; omega) _).far (by dsimp only; omega) _), (((id q1).2.2.1.far (by dsimp only; omega) _).far (by dsimp only; omega) _), (((id q1).2.2.2.set (by dsimp only; omega) _).set (by dsimp only; omega) _)⟩
                replace HNa0 := hi (HNa0.out.res HT.out (ms) (.slice ads ns cs))
                replace HNa1 := hi (HNa1.out.res HT.out (ms) (.slice ads ns cs))
                replace HNa := hi (HNa.out.res HT.out (ms) (.slice ads ns cs))
                replace HNb0 := hi (HNb0.out.res HT.out (ms) (.slice ads ns cs))
                replace HNb1 := hi (HNb1.out.res HT.out (ms) (.slice ads ns cs))
                replace HNb := hi (HNb.out.res HT.out (ms) (.slice ads ns cs))
                replace HNs := hi (HNs.out.res HT.out (ms) (.slice ads ns cs))
                replace HT := hi (HT.out.set2 (.bool ms) (.slice ads ns cs))
                clear hK K q1 k0 k1 f0 f1
                have q1 := q2
                clear q2
                try simp only [Act.put, x2, x3, x4, x5, x6, x7]
                refine wpAnyH_done (by kernel_rfl) ?_ _
                go_wp2_with fail
                go_meet
                case rel => exact ⟨_, _, _, _, _, rfl, HT.out, HNs.out, id q1⟩
            · go_simp
              refine hK.out _ _ ?_ (fun q2 => ?_)
              · exact ⟨(id q1).1.below (bl_one _ _), (id q1).2.1.below (bl_one _ _), (id q1).2.2.1.below (bl_one _ _), (id q1).2.2.2.below (bl_one _ _)⟩
              replace HNa0 := hi (HNa0.out.below (al_of (id q2).2.2.2 (bl_one _ _)))
              replace HNa1 := hi (HNa1.out.below (al_of (id q2).2.2.2 (bl_one _ _)))
              replace HNa := hi (HNa.out.below (al_of (id q2).2.2.2 (bl_one _ _)))
              replace HNb0 := hi (HNb0.out.below (al_of (id q2).2.2.2 (bl_one _ _)))
              have hgeHT := (id q1).2.2.2.sz
              have HT := hi ((id q1).2.2.2.var2 (.bool false) (.slice none 0 0) 123)
              clear hK K q1
              have q1 := q2
              clear q2
              try simp only [Act.put, x2, x3, x4, x5, x6, x7]
              revert HNa0
              revert HNa1
              revert HNa
              revert HNb0
              revert HT
              revert q1
              generalize World.alloc _ _ = W2
              intro q1 HT HNb0 HNa HNa1 HNa0
              refine r1 (i := 24) rfl (fun K hK => ?_)
              go_simp
              go_at_call 94
              (with_reducible refine (small_r y2 Ry2.out _).mono ?_); rintro e w1 ⟨vb1, rfl, hNb1, hb1⟩
              obtain ⟨mb1, adb1, nb1, cb1, rfl⟩ := hNb1.shape
              have HNb1 := hi hNb1
              clear hNb1
              go_wp2_with fail
              refine hK.out _ _ ?_ (fun q2 => ?_)
              · exact ⟨(id q1).1.below hb1, (id q1).2.1.below hb1, (id q1).2.2.1.below hb1, (id q1).2.2.2.below hb1⟩
              replace HNa0 := hi (HNa0.out.below hb1)
              replace HNa1 := hi (HNa1.out.below hb1)
              replace HNa := hi (HNa.out.below hb1)
              replace HNb0 := hi (HNb0.out.below hb1)
              replace HT := hi (HT.out.below hb1)
              clear hK K q1 hb1
              have q1 := q2
              clear q2
              try simp only [Act.put, x2, x3, x4, x5, x6, x7]
              refine r1 (i := 25) rfl (fun K hK => ?_)
              go_simp
              go_at_call 95
              (with_reducible refine (times_num _ _ y1 y2 _ HNb0.out HNb1.out By1.out By2.out).mono ?_); rintro e w1 ⟨vb, rfl, hNb, hb1⟩
              obtain ⟨mb, adb, nb, cb, rfl⟩ := hNb.shape
              have HNb := hi hNb
              clear hNb
              go_wp2_with fail
              refine hK.out _ _ ?_ (fun q2 => ?_)
              · exact ⟨(id q1).1.below hb1, (id q1).2.1.below hb1, (id q1).2.2.1.below hb1, (id q1).2.2.2.below hb1⟩
              replace HNa0 := hi (HNa0.out.below hb1)
              replace HNa1 := hi (HNa1.out.below hb1)
              replace HNa := hi (HNa.out.below hb1)
              replace HNb0 := hi (HNb0.out.below hb1)
              replace HT := hi (HT.out.below hb1)
              replace HNb1 := hi (HNb1.out.below hb1)
              clear hK K q1 hb1
              have q1 := q2
              clear q2
              try simp only [Act.put, x2, x3, x4, x5, x6, x7]
              refine r1 (i := 26) rfl (fun K hK => ?_)
              go_simp
              go_at_call 96
              (with_reducible refine (plus_c _ _ (x1 * x2) (y1 * y2) _ HNa.out HNb.out BX.out BY.out).mono ?_); rintro e w1 ⟨vs, rfl, hNs, hb1⟩
              obtain ⟨ms, ads, ns, cs, rfl⟩ := hNs.shape
              have HNs := hi hNs
              clear hNs
              go_wp2_with fail
              refine hK.out _ _ ?_ (fun q2 => ?_)
              · exact ⟨(id q1).1.below hb1, (id q1).2.1.below hb1, (id q1).2.2.1.below hb1, (id q1).2.2.2.below hb1⟩
              replace HNa0 := hi (HNa0.out.below hb1)
              replace HNa1 := hi (HNa1.out.below hb1)
              replace HNa := hi (HNa.out.below hb1)
              replace HNb0 := hi (HNb0.out.below hb1)
              replace HT := hi (HT.out.below hb1)
              replace HNb1 := hi (HNb1.out.below hb1)
              replace HNb := hi (HNb.out.below hb1)
              clear hK K q1 hb1
              have q1 := q2
              clear q2
              try simp only [Act.put, x2, x3, x4, x5, x6, x7]
              refine r1 (i := 28) rfl (fun K hK => ?_)
              obtain ⟨k0, k1⟩ := HT.out.two
              obtain ⟨f0, f1⟩ := HT.out.free2
              go_simp
              refine hK.out _ _ ?_ (fun q2 => ?_)
              · exact ⟨(((id q1).1.far (by dsimp only; omega) _).far (by dsimp only; omega) _), (((id q1).2.1.far (by dsimp only; omega) _).far (by dsimp only; omega) _), (((id q1).2.2.1.far (by dsimp only; omega) _).far (by dsimp only; omega) _), (((id q1).2.2.2.set (by dsimp only; omega) _).set (by dsimp only; omega) _)⟩
              replace HNa0 := hi (HNa0.out.res HT.out (ms) (.slice ads ns cs))
              replace HNa1 := hi (HNa1.out.res HT.out (ms) (.slice ads ns cs))
              replace HNa := hi (HNa.out.res HT.out (ms) (.slice ads ns cs))
              replace HNb0 := hi (HNb0.out.res HT.out (ms) (.slice ads ns cs))
              replace HNb1 := hi (HNb1.out.res HT.out (ms) (.slice ads ns cs))
              replace HNb := hi (HNb.out.res HT.out (ms) (.slice ads ns cs))
              replace HNs := hi (HNs.out.res HT.out (ms) (.slice ads ns cs))
              replace HT := hi (HT.out.set2 (.bool ms) (.slice ads ns cs))
              clear hK K q1 k0 k1 f0 f1
              have q1 := q2
              clear q2
              try simp only [Act.put, x2, x3, x4, x5, x6, x7]
              refine wpAnyH_done (by kernel_rfl) ?_ _
              go_wp2_with fail
              go_meet
              case rel => exact ⟨_, _, _, _, _, rfl, HT.out, HNs.out, id q1⟩
          · go_simp
            refine hK.out _ _ ?_ (fun q2 => ?_)
            · exact ⟨(id q1).1.below (bl_one _ _), (id q1).2.1.below (bl_one _ _), (id q1).2.2.1.below (bl_one _ _), (id q1).2.2.2.below (bl_one _ _)⟩
            replace HNa0 := hi (HNa0.out.below (al_of (id q2).2.2.2 (bl_one _ _)))
            replace HNa1 := hi (HNa1.out.below (al_of (id q2).2.2.2 (bl_one _ _)))
            replace HNa := hi (HNa.out.below (al_of (id q2).2.2.2 (bl_one _ _)))
            have hgeHT := (id q1).2.2.2.sz
            have HT := hi ((id q1).2.2.2.var2 (.bool false) (.slice none 0 0) 123)
            clear hK K q1
            have q1 := q2
            clear q2
            try simp only [Act.put, x2, x3, x4, x5, x6, x7]
            revert HNa0
            revert HNa1
            revert HNa
            revert HT
            revert q1
            generalize World.alloc _ _ = W2
            intro q1 HT HNa HNa1 HNa0
            refine r1 (i := 18) rfl (fun K hK => ?_)
            go_simp
            go_at_call 94
            (with_reducible refine (small_r y1 Ry1.out _).mono ?_); rintro e w1 ⟨vb0, rfl, hNb0, hb1⟩
            obtain ⟨mb0, adb0, nb0, cb0, rfl⟩ := hNb0.shape
            have HNb0 := hi hNb0
            clear hNb0
            go_wp2_with fail
            refine hK.out _ _ ?_ (fun q2 => ?_)
            · exact ⟨(id q1).1.below hb1, (id q1).2.1.below hb1, (id q1).2.2.1.below hb1, (id q1).2.2.2.below hb1⟩
            replace HNa0 := hi (HNa0.out.below hb1)
            replace HNa1 := hi (HNa1.out.below hb1)
            replace HNa := hi (HNa.out.below hb1)
            replace HT := hi (HT.out.below hb1)
            clear hK K q1 hb1
            have q1 := q2
            clear q2
            try simp only [Act.put, x2, x3, x4, x5, x6, x7]
            refine r1 (i := 24) rfl (fun K hK => ?_)
            go_simp
            go_at_call 94
            (with_reducible refine (small_r y2 Ry2.out _).mono ?_); rintro e w1 ⟨vb1, rfl, hNb1, hb1⟩
            obtain ⟨mb1, adb1, nb1, cb1, rfl⟩ := hNb1.shape
            have HNb1 := hi hNb1
            clear hNb1
            go_wp2_with fail
            refine hK.out _ _ ?_ (fun q2 => ?_)
            · exact ⟨(id q1).1.below hb1, (id q1).2.1.below hb1, (id q1).2.2.1.below hb1, (id q1).2.2.2.below hb1⟩
            replace HNa0 := hi (HNa0.out.below hb1)
            replace HNa1 := hi (HNa1.out.below hb1)
            replace HNa := hi (HNa.out.below hb1)
            replace HT := hi (HT.out.below hb1)
            replace HNb0 := hi (HNb0.out.below hb1)
            clear hK K q1 hb1
            have q1 := q2
            clear q2
            try simp only [Act.put, x2, x3, x4, x5, x6, x7]
            refine r1 (i := 25) rfl (fun K hK => ?_)
            go_simp
            go_at_call 95
            (with_reducible refine (times_num _ _ y1 y2 _ HNb0.out HNb1.out By1.out By2.out).mono ?_); rintro e w1 ⟨vb, rfl, hNb, hb1⟩
            obtain ⟨mb, adb, nb, cb, rfl⟩ := hNb.shape
            have HNb := hi hNb
            clear hNb
            go_wp2_with fail
            refine hK.out _ _ ?_ (fun q2 => ?_)
            · exact ⟨(id q1).1.below hb1, (id q1).2.1.below hb1, (id q1).2.2.1.below hb1, (id q1).2.2.2.below hb1⟩
            replace HNa0 := hi (HNa0.out.below hb1)
            replace HNa1 := hi (HNa1.out.below hb1)
            replace HNa := hi (HNa.out.below hb1)
            replace HT := hi (HT.out.below hb1)
            replace HNb0 := hi (HNb0.out.below hb1)
            replace HNb1 := hi (HNb1.out.below hb1)
            clear hK K q1 hb1
            have q1 := q2
            clear q2
            try simp only [Act.put, x2, x3, x4, x5, x6, x7]
            refine r1 (i := 26) rfl (fun K hK => ?_)
            go_simp
            go_at_call 96
            (with_reducible refine (plus_c _ _ (x1 * x2) (y1 * y2) _ HNa.out HNb.out BX.out BY.out).mono ?_); rintro e w1 ⟨vs, rfl, hNs, hb1⟩
            obtain ⟨ms, ads, ns, cs, rfl⟩ := hNs.shape
            have HNs := hi hNs
            clear hNs
            go_wp2_with fail
            refine hK.out _ _ ?_ (fun q2 => ?_)
            · exact ⟨(id q1).1.below hb1, (id q1).2.1.below hb1, (id q1).2.2.1.below hb1, (id q1).2.2.2.below hb1⟩
            replace HNa0 := hi (HNa0.out.below hb1)
            replace HNa1 := hi (HNa1.out.below hb1)
            replace HNa := hi (HNa.out.below hb1)
            replace HT := hi (HT.out.below hb1)
            replace HNb0 := hi (HNb0.out.below hb1)
            replace HNb1 := hi (HNb1.out.below hb1)
            replace HNb := hi (HNb.out.below hb1)
            clear hK K q1 hb1
            have q1 := q2
            clear q2
            try simp only [Act.put, x2, x3, x4, x5, x6, x7]
            refine r1 (i := 28) rfl (fun K hK => ?_)
            obtain ⟨k0, k1⟩ := HT.out.two
            obtain ⟨f0, f1⟩ := HT.out.free2
            go_simp
            refine hK.out _ _ ?_ (fun q2 => ?_)
            · exact ⟨(((id q1).1.far (by dsimp only; omega) _).far (by dsimp only; omega) _), (((id q1).2.1.far (by dsimp only; omega) _).far (by dsimp only; omega) _), (((id q1).2.2.1.far (by dsimp only; omega) _).far (by dsimp only; omega) _), (((id q1).2.2.2.set (by dsimp only; omega) _).set (by dsimp only; omega) _)⟩
            replace HNa0 := hi (HNa0.out.res HT.out (ms) (.slice ads ns cs))
            replace HNa1 := hi (HNa1.out.res HT.out (ms) (.slice ads ns cs))
            replace HNa := hi (HNa.out.res HT.out (ms) (.slice ads ns cs))
            replace HNb0 := hi (HNb0.out.res HT.out (ms) (.slice ads ns cs))
            replace HNb1 := hi (HNb1.out.res HT.out (ms) (.slice ads ns cs))
            replace HNb := hi (HNb.out.res HT.out (ms) (.slice ads ns cs))
            replace HNs := hi (HNs.out.res HT.out (ms) (.slice ads ns cs))
            replace HT := hi (HT.out.set2 (.bool ms) (.slice ads ns cs))
            clear hK K q1 k0 k1 f0 f1
            have q1 := q2
            clear q2
            try simp only [Act.put, x2, x3, x4, x5, x6, x7]
            refine wpAnyH_done (by kernel_rfl) ?_ _
            go_wp2_with fail
            go_meet
            case rel => exact ⟨_, _, _, _, _, rfl, HT.out, HNs.out, id q1⟩
        · go_simp
          refine hK.out _ _ ?_ (fun q2 => ?_)
          · exact ⟨(id q1).1.below (bl_one _ _), (id q1).2.1.below (bl_one _ _), (id q1).2.2.1.below (bl_one _ _), (id q1).2.2.2.below (bl_one _ _)⟩
          replace HNa0 := hi (HNa0.out.below (al_of (id q2).2.2.2 (bl_one _ _)))
          replace HNa1 := hi (HNa1.out.below (al_of (id q2).2.2.2 (bl_one _ _)))
          have hgeHT := (id q1).2.2.2.sz
          have HT := hi ((id q1).2.2.2.var2 (.bool false) (.slice none 0 0) 123)
          clear hK K q1
          have q1 := q2
          clear q2
          try simp only [Act.put, x2, x3, x4, x5, x6, x7]
          revert HNa0
          revert HNa1
          revert HT
          revert q1
          generalize World.alloc _ _ = W2
          intro q1 HT HNa1 HNa0
          refine r1 (i := 12) rfl (fun K hK => ?_)
          go_simp
          go_at_call 95
          (with_reducible refine (times_num _ _ x1 x2 _ HNa0.out HNa1.out Bx1.out Bx2.out).mono ?_); rintro e w1 ⟨va, rfl, hNa, hb1⟩
          obtain ⟨ma, ada, na, ca, rfl⟩ := hNa.shape
          have HNa := hi hNa
          clear hNa
          go_wp2_with fail
          refine hK.out _ _ ?_ (fun q2 => ?_)
          · exact ⟨(id q1).1.below hb1, (id q1).2.1.below hb1, (id q1).2.2.1.below hb1, (id q1).2.2.2.below hb1⟩
          replace HNa0 := hi (HNa0.out.below hb1)
          replace HNa1 := hi (HNa1.out.below hb1)
          replace HT := hi (HT.out.below hb1)
          clear hK K q1 hb1
          have q1 := q2
          clear q2
          try simp only [Act.put, x2, x3, x4, x5, x6, x7]
          refine r1 (i := 18) rfl (fun K hK => ?_)
          go_simp
          go_at_call 94
          (with_reducible refine (small_r y1 Ry1.out _).mono ?_); rintro e w1 ⟨vb0, rfl, hNb0, hb1⟩
          obtain ⟨mb0, adb0, nb0, cb0, rfl⟩ := hNb0.shape
          have HNb0 := hi hNb0
          clear hNb0
          go_wp2_with fail
          refine hK.out _ _ ?_ (fun q2 => ?_)
          · exact ⟨(id q1).1.below hb1, (id q1).2.1.below hb1, (id q1).2.2.1.below hb1, (id q1).2.2.2.below hb1⟩
          replace HNa0 := hi (HNa0.out.below hb1)
          replace HNa1 := hi (HNa1.out.below hb1)
          replace HT := hi (HT.out.below hb1)
          replace HNa := hi (HNa.out.below hb1)
          clear hK K q1 hb1
          have q1 := q2
          clear q2
          try simp only [Act.put, x2, x3, x4, x5, x6, x7]
          refine r1 (i := 24) rfl (fun K hK => ?_)
          go_simp
          go_at_call 94
          (with_reducible refine (small_r y2 Ry2.out _).mono ?_); rintro e w1 ⟨vb1, rfl, hNb1, hb1⟩
          obtain ⟨mb1, adb1, nb1, cb1, rfl⟩ := hNb1.shape
          have HNb1 := hi hNb1
          clear hNb1
          go_wp2_with fail
          refine hK.out _ _ ?_ (fun q2 => ?_)
          · exact ⟨(id q1).1.below hb1, (id q1).2.1.below hb1, (id q1).2.2.1.below hb1, (id q1).2.2.2.below hb1⟩
          replace HNa0 := hi (HNa0.out.below hb1)
          replace HNa1 := hi (HNa1.out.below hb1)
          replace HT := hi (HT.out.below hb1)
          replace HNa := hi (HNa.out.below hb1)
          replace HNb0 := hi (HNb0.out.below hb1)
          clear hK K q1 hb1
          have q1 := q2
          clear q2
          try simp only [Act.put, x2, x3, x4, x5, x6, x7]
          refine r1 (i := 25) rfl (fun K hK => ?_)
          go_simp
          go_at_call 95
          (with_reducible refine (times_num _ _ y1 y2 _ HNb0.out HNb1.out By1.out By2.out).mono ?_); rintro e w1 ⟨vb, rfl, hNb, hb1⟩
          obtain ⟨mb, adb, nb, cb, rfl⟩ := hNb.shape
          have HNb := hi hNb
          clear hNb
          go_wp2_with fail
          refine hK.out _ _ ?_ (fun q2 => ?_)
          · exact ⟨(id q1).1.below hb1, (id q1).2.1.below hb1, (id q1).2.2.1.below hb1, (id q1).2.2.2.below hb1⟩
          replace HNa0 := hi (HNa0.out.below hb1)
          replace HNa1 := hi (HNa1.out.below hb1)
          replace HT := hi (HT.out.below hb1)
          replace HNa := hi (HNa.out.below hb1)
          replace HNb0 := hi (HNb0.out.below hb1)
          replace HNb1 := hi (HNb1.out.below hb1)
          clear hK K q1 hb1
          have q1 := q2
          clear q2
          try simp only [Act.put, x2, x3, x4, x5, x6, x7]
          refine r1 (i := 26) rfl (fun K hK => ?_)
          go_simp
          go_at_call 96
          (with_reducible refine (plus_c _ _ (x1 * x2) (y1 * y2) _ HNa.out HNb.out BX.out BY.out).mono ?_); rintro e w1 ⟨vs, rfl, hNs, hb1⟩
          obtain ⟨ms, ads, ns, cs, rfl⟩ := hNs.shape
          have HNs := hi hNs
          clear hNs
          go_wp2_with fail
          refine hK.out _ _ ?_ (fun q2 => ?_)
          · exact ⟨(id q1).1.below hb1, (id q1).2.1.below hb1, (id q1).2.2.1.below hb1, (id q1).2.2.2.below hb1⟩
          replace HNa0 := hi (HNa0.out.below hb1)
          replace HNa1 := hi (HNa1.out.below hb1)
          replace HT := hi (HT.out.below hb1)
          replace HNa := hi (HNa.out.below hb1)
          replace HNb0 := hi (HNb0.out.below hb1)
          replace HNb1 := hi (HNb1.out.below hb1)
          replace HNb := hi (HNb.out.below hb1)
          clear hK K q1 hb1
          have q1 := q2
          clear q2
          try simp only [Act.put, x2, x3, x4, x5, x6, x7]
          refine r1 (i := 28) rfl (fun K hK => ?_)
          obtain ⟨k0, k1⟩ := HT.out.two
          obtain ⟨f0, f1⟩ := HT.out.free2
          go_simp
          refine hK.out _ _ ?_ (fun q2 => ?_)
          · exact ⟨(((id q1).1.far (by dsimp only; omega) _).far (by dsimp only; omega) _), (((id q1).2.1.far (by dsimp only; omega) _).far (by dsimp only; omega) _), (((id q1).2.2.1.far (by dsimp only; omega) _).far (by dsimp only; omega) _), (((id q1).2.2.2.set (by dsimp only; omega) _).set (by dsimp only; omega) _)⟩
          replace HNa0 := hi (HNa0.out.res HT.out (ms) (.slice ads ns cs))
          replace HNa1 := hi (HNa1.out.res HT.out (ms) (.slice ads ns cs))
          replace HNa := hi (HNa.out.res HT.out (ms) (.slice ads ns cs))
          replace HNb0 := hi (HNb0.out.res HT.out (ms) (.slice ads ns cs))
          replace HNb1 := hi (HNb1.out.res HT.out (ms) (.slice ads ns cs))
          replace HNb := hi (HNb.out.res HT.out (ms) (.slice ads ns cs))
          replace HNs := hi (HNs.out.res HT.out (ms) (.slice ads ns cs))
          replace HT := hi (HT.out.set2 (.bool ms) (.slice ads ns cs))
          clear hK K q1 k0 k1 f0 f1
          have q1 := q2
          clear q2
          try simp only [Act.put, x2, x3, x4, x5, x6, x7]
          refine wpAnyH_done (by kernel_rfl) ?_ _
          go_wp2_with fail
          go_meet
          case rel => exact ⟨_, _, _, _, _, rfl, HT.out, HNs.out, id q1⟩
      · go_simp
        refine hK.out _ _ ?_ (fun q2 => ?_)
        · exact ⟨(id q1).1.below (bl_one _ _), (id q1).2.1.below (bl_one _ _), (id q1).2.2.1.below (bl_one _ _), (id q1).2.2.2.below (bl_one _ _)⟩
        replace HNa0 := hi (HNa0.out.below (al_of (id q2).2.2.2 (bl_one _ _)))
        have hgeHT := (id q1).2.2.2.sz
        have HT := hi ((id q1).2.2.2.var2 (.bool false) (.slice none 0 0) 123)
        clear hK K q1
        have q1 := q2
        clear q2
        try simp only [Act.put, x2, x3, x4, x5, x6, x7]
        revert HNa0
        revert HT
        revert q1
        generalize World.alloc _ _ = W2
        intro q1 HT HNa0
        refine r1 (i := 11) rfl (fun K hK => ?_)
        go_simp
        go_at_call 94
        (with_reducible refine (small_r x2 Rx2.out _).mono ?_); rintro e w1 ⟨va1, rfl, hNa1, hb1⟩
        obtain ⟨ma1, ada1, na1, ca1, rfl⟩ := hNa1.shape
        have HNa1 := hi hNa1
        clear hNa1
        go_wp2_with fail
        refine hK.out _ _ ?_ (fun q2 => ?_)
        · exact ⟨(id q1).1.below hb1, (id q1).2.1.below hb1, (id q1).2.2.1.below hb1, (id q1).2.2.2.below hb1⟩
        replace HNa0 := hi (HNa0.out.below hb1)
        replace HT := hi (HT.out.below hb1)
        clear hK K q1 hb1
        have q1 := q2
        clear q2
        try simp only [Act.put, x2, x3, x4, x5, x6, x7]
        refine r1 (i := 12) rfl (fun K hK => ?_)
        go_simp
        go_at_call 95
        (with_reducible refine (times_num _ _ x1 x2 _ HNa0.out HNa1.out Bx1.out Bx2.out).mono ?_); rintro e w1 ⟨va, rfl, hNa, hb1⟩
        obtain ⟨ma, ada, na, ca, rfl⟩ := hNa.shape
        have HNa := hi hNa
        clear hNa
        go_wp2_with fail
        refine hK.out _ _ ?_ (fun q2 => ?_)
        · exact ⟨(id q1).1.below hb1, (id q1).2.1.below hb1, (id q1).2.2.1.below hb1, (id q1).2.2.2.below hb1⟩
        replace HNa0 := hi (HNa0.out.below hb1)
        replace HT := hi (HT.out.below hb1)
        replace HNa1 := hi (HNa1.out.below hb1)
        clear hK K q1 hb1
        have q1 := q2
        clear q2
        try simp only [Act.put, x2, x3, x4, x5, x6, x7]
        refine r1 (i := 18) rfl (fun K hK => ?_)
        go_simp
        go_at_call 94
        (with_reducible refine (small_r y1 Ry1.out _).mono ?_); rintro e w1 ⟨vb0, rfl, hNb0, hb1⟩
        obtain ⟨mb0, adb0, nb0, cb0, rfl⟩ := hNb0.shape
        have HNb0 := hi hNb0
        clear hNb0
        go_wp2_with fail
        refine hK.out _ _ ?_ (fun q2 => ?_)
        · exact ⟨(id q1).1.below hb1, (id q1).2.1.below hb1, (id q1).2.2.1.below hb1, (id q1).2.2.2.below hb1⟩
        replace HNa0 := hi (HNa0.out.below hb1)
        replace HT := hi (HT.out.below hb1)
        replace HNa1 := hi (HNa1.out.below hb1)
        replace HNa := hi (HNa.out.below hb1)
        clear hK K q1 hb1
        have q1 := q2
        clear q2
        try simp only [Act.put, x2, x3, x4, x5, x6, x7]
        refine r1 (i := 24) rfl (fun K hK => ?_)
        go_simp
        go_at_call 94
        (with_reducible refine (small_r y2 Ry2.out _).mono ?_); rintro e w1 ⟨vb1, rfl, hNb1, hb1⟩
        obtain ⟨mb1, adb1, nb1, cb1, rfl⟩ := hNb1.shape
        have HNb1 := hi hNb1
        clear hNb1
        go_wp2_with fail
        refine hK.out _ _ ?_ (fun q2 => ?_)
        · exact ⟨(id q1).1.below hb1, (id q1).2.1.below hb1, (id q1).2.2.1.below hb1, (id q1).2.2.2.below hb1⟩
        replace HNa0 := hi (HNa0.out.below hb1)
        replace HT := hi (HT.out.below hb1)
        replace HNa1 := hi (HNa1.out.below hb1)
        replace HNa := hi (HNa.out.below hb1)
        replace HNb0 := hi (HNb0.out.below hb1)
        clear hK K q1 hb1
        have q1 := q2
        clear q2
        try simp only [Act.put, x2, x3, x4, x5, x6, x7]
        refine r1 (i := 25) rfl (fun K hK => ?_)
        go_simp
        go_at_call 95
        (with_reducible refine (times_num _ _ y1 y2 _ HNb0.out HNb1.out By1.out By2.out).mono ?_); rintro e w1 ⟨vb, rfl, hNb, hb1⟩
        obtain ⟨mb, adb, nb, cb, rfl⟩ := hNb.shape
        have HNb := hi hNb
        clear hNb
        go_wp2_with fail
        refine hK.out _ _ ?_ (fun q2 => ?_)
        · exact ⟨(id q1).1.below hb1, (id q1).2.1.below hb1, (id q1).2.2.1.below hb1, (id q1).2.2.2.below hb1⟩
        replace HNa0 := hi (HNa0.out.below hb1)
        replace HT := hi (HT.out.below hb1)
        replace HNa1 := hi (HNa1.out.below hb1)
        replace HNa := hi (HNa.out.below hb1)
        replace HNb0 := hi (HNb0.out.below hb1)
        replace HNb1 := hi (HNb1.out.below hb1)
        clear hK K q1 hb1
        have q1 := q2
        clear q2
        try simp only [Act.put, x2, x3, x4, x5, x6, x7]
        refine r1 (i := 26) rfl (fun K hK => ?_)
        go_simp
        go_at_call 96
        (with_reducible refine (plus_c _ _ (x1 * x2) (y1 * y2) _ HNa.out HNb.out BX.out BY.out).mono ?_); rintro e w1 ⟨vs, rfl, hNs, hb1⟩
        obtain ⟨ms, ads, ns, cs, rfl⟩ := hNs.shape
        have HNs := hi hNs
        clear hNs
        go_wp2_with fail
        refine hK.out _ _ ?_ (fun q2 => ?_)
        · exact ⟨(id q1).1.below hb1, (id q1).2.1.below hb1, (id q1).2.2.1.below hb1, (id q1).2.2.2.below hb1⟩
        replace HNa0 := hi (HNa0.out.below hb1)
        replace HT := hi (HT.out.below hb1)
        replace HNa1 := hi (HNa1.out.below hb1)
        replace HNa := hi (HNa.out.below hb1)
        replace HNb0 := hi (HNb0.out.below hb1)
        replace HNb1 := hi (HNb1.out.below hb1)
        replace HNb := hi (HNb.out.below hb1)
        clear hK K q1 hb1
        have q1 := q2
        clear q2
        try simp only [Act.put, x2, x3, x4, x5, x6, x7]
        refine r1 (i := 28) rfl (fun K hK => ?_)
        obtain ⟨k0, k1⟩ := HT.out.two
        obtain ⟨f0, f1⟩ := HT.out.free2
        go_simp
        refine hK.out _ _ ?_ (fun q2 => ?_)
        · exact ⟨(((id q1).1.far (by dsimp only; omega) _).far (by dsimp only; omega) _), (((id q1).2.1.far (by dsimp only; omega) _).far (by dsimp only; omega) _), (((id q1).2.2.1.far (by dsimp only; omega) _).far (by dsimp only; omega) _), (((id q1).2.2.2.set (by dsimp only; omega) _).set (by dsimp only; omega) _)⟩
        replace HNa0 := hi (HNa0.out.res HT.out (ms) (.slice ads ns cs))
        replace HNa1 := hi (HNa1.out.res HT.out (ms) (.slice ads ns cs))
        replace HNa := hi (HNa.out.res HT.out (ms) (.slice ads ns cs))
        replace HNb0 := hi (HNb0.out.res HT.out (ms) (.slice ads ns cs))
        replace HNb1 := hi (HNb1.out.res HT.out (ms) (.slice ads ns cs))
        replace HNb := hi (HNb.out.res HT.out (ms) (.slice ads ns cs))
        replace HNs := hi (HNs.out.res HT.out (ms) (.slice ads ns cs))
        replace HT := hi (HT.out.set2 (.bool ms) (.slice ads ns cs))
        clear hK K q1 k0 k1 f0 f1
        have q1 := q2
        clear q2
        try simp only [Act.put, x2, x3, x4, x5, x6, x7]
        refine wpAnyH_done (by kernel_rfl) ?_ _
        go_wp2_with fail
        go_meet
        case rel => exact ⟨_, _, _, _, _, rfl, HT.out, HNs.out, id q1⟩
    · go_simp
      refine hK.out _ _ ?_ (fun q2 => ?_)
      · exact ⟨(id q1).1.below (bl_one _ _), (id q1).2.1.below (bl_one _ _), (id q1).2.2.1.below (bl_one _ _), (id q1).2.2.2.below (bl_one _ _)⟩
      have hgeHT := (id q1).2.2.2.sz
      have HT := hi ((id q1).2.2.2.var2 (.bool false) (.slice none 0 0) 123)
      clear hK K q1
      have q1 := q2
      clear q2
      try simp only [Act.put, x2, x3, x4, x5, x6, x7]
      revert HT
      revert q1
      generalize World.alloc _ _ = W2
      intro q1 HT
      refine r1 (i := 5) rfl (fun K hK => ?_)
      go_simp
      go_at_call 94
      (with_reducible refine (small_r x1 Rx1.out _).mono ?_); rintro e w1 ⟨va0, rfl, hNa0, hb1⟩
      obtain ⟨ma0, ada0, na0, ca0, rfl⟩ := hNa0.shape
      have HNa0 := hi hNa0
      clear hNa0
      go_wp2_with fail
      refine hK.out _ _ ?_ (fun q2 => ?_)
      · exact ⟨(id q1).1.below hb1, (id q1).2.1.below hb1, (id q1).2.2.1.below hb1, (id q1).2.2.2.below hb1⟩
      replace HT := hi (HT.out.below hb1)
      clear hK K q1 hb1
      have q1 := q2
      clear q2
      try simp only [Act.put, x2, x3, x4, x5, x6, x7]
      refine r1 (i := 11) rfl (fun K hK => ?_)
      go_simp
      go_at_call 94
      (with_reducible refine (small_r x2 Rx2.out _).mono ?_); rintro e w1 ⟨va1, rfl, hNa1, hb1⟩
      obtain ⟨ma1, ada1, na1, ca1, rfl⟩ := hNa1.shape
      have HNa1 := hi hNa1
      clear hNa1
      go_wp2_with fail
      refine hK.out _ _ ?_ (fun q2 => ?_)
      · exact ⟨(id q1).1.below hb1, (id q1).2.1.below hb1, (id q1).2.2.1.below hb1, (id q1).2.2.2.below hb1⟩
      replace HT := hi (HT.out.below hb1)
      replace HNa0 := hi (HNa0.out.below hb1)
      clear hK K q1 hb1
      have q1 := q2
      clear q2
      try simp only [Act.put, x2, x3, x4, x5, x6, x7]
      refine r1 (i := 12) rfl (fun K hK => ?_)
      go_simp
      go_at_call 95
      (with_reducible refine (times_num _ _ x1 x2 _ HNa0.out HNa1.out Bx1.out Bx2.out).mono ?_); rintro e w1 ⟨va, rfl, hNa, hb1⟩
      obtain ⟨ma, ada, na, ca, rfl⟩ := hNa.shape
      have HNa := hi hNa
      clear hNa
      go_wp2_with fail
      refine hK.out _ _ ?_ (fun q2 => ?_)
      · exact ⟨(id q1).1.below hb1, (id q1).2.1.below hb1, (id q1).2.2.1.below hb1, (id q1).2.2.2.below hb1⟩
      replace HT := hi (HT.out.below hb1)
      replace HNa0 := hi (HNa0.out.below hb1)
      replace HNa1 := hi (HNa1.out.below hb1)
      clear hK K q1 hb1
      have q1 := q2
      clear q2
      try simp only [Act.put, x2, x3, x4, x5, x6, x7]
      refine r1 (i := 18) rfl (fun K hK => ?_)
      go_simp
      go_at_call 94
      (with_reducible refine (small_r y1 Ry1.out _).mono ?_); rintro e w1 ⟨vb0, rfl, hNb0, hb1⟩
      obtain ⟨mb0, adb0, nb0, cb0, rfl⟩ := hNb0.shape
      have HNb0 := hi hNb0
      clear hNb0
      go_wp2_with fail
      refine hK.out _ _ ?_ (fun q2 => ?_)
      · exact ⟨(id q1).1.below hb1, (id q1).2.1.below hb1, (id q1).2.2.1.below hb1, (id q1).2.2.2.below hb1⟩
      replace HT := hi (HT.out.below hb1)
      replace HNa0 := hi (HNa0.out.below hb1)
      replace HNa1 := hi (HNa1.out.below hb1)
      replace HNa := hi (HNa.out.below hb1)
      clear hK K q1 hb1
      have q1 := q2
      clear q2
      try simp only [Act.put, x2, x3, x4, x5, x6, x7]
      refine r1 (i := 24) rfl (fun K hK => ?_)
      go_simp
      go_at_call 94
      (with_reducible refine (small_r y2 Ry2.out _).mono ?_); rintro e w1 ⟨vb1, rfl, hNb1, hb1⟩
      obtain ⟨mb1, adb1, nb1, cb1, rfl⟩ := hNb1.shape
      have HNb1 := hi hNb1
      clear hNb1
      go_wp2_with fail
      refine hK.out _ _ ?_ (fun q2 => ?_)
      · exact ⟨(id q1).1.below hb1, (id q1).2.1.below hb1, (id q1).2.2.1.below hb1, (id q1).2.2.2.below hb1⟩
      replace HT := hi (HT.out.below hb1)
      replace HNa0 := hi (HNa0.out.below hb1)
      replace HNa1 := hi (HNa1.out.below hb1)
      replace HNa := hi (HNa.out.below hb1)
      replace HNb0 := hi (HNb0.out.below hb1)
      clear hK K q1 hb1
      have q1 := q2
      clear q2
      try simp only [Act.put, x2, x3, x4, x5, x6, x7]
      refine r1 (i := 25) rfl (fun K hK => ?_)
      go_simp
      go_at_call 95
      (with_reducible refine (times_num _ _ y1 y2 _ HNb0.out HNb1.out By1.out By2.out).mono ?_); rintro e w1 ⟨vb, rfl, hNb, hb1⟩
      obtain ⟨mb, adb, nb, cb, rfl⟩ := hNb.shape
      have HNb := hi hNb
      clear hNb
      go_wp2_with fail
      refine hK.out _ _ ?_ (fun q2 => ?_)
      · exact ⟨(id q1).1.below hb1, (id q1).2.1.below hb1, (id q1).2.2.1.below hb1, (id q1).2.2.2.below hb1⟩
      replace HT := hi (HT.out.below hb1)
      replace HNa0 := hi (HNa0.out.below hb1)
      replace HNa1 := hi (HNa1.out.below hb1)
      replace HNa := hi (HNa.out.below hb1)
      replace HNb0 := hi (HNb0.out.below hb1)
      replace HNb1 := hi (HNb1.out.below hb1)
      clear hK K q1 hb1
      have q1 := q2
      clear q2
      try simp only [Act.put, x2, x3, x4, x5, x6, x7]
      refine r1 (i := 26) rfl (fun K hK => ?_)
      go_simp
      go_at_call 96
      (with_reducible refine (plus_c _ _ (x1 * x2) (y1 * y2) _ HNa.out HNb.out BX.out BY.out).mono ?_); rintro e w1 ⟨vs, rfl, hNs, hb1⟩
      obtain ⟨ms, ads, ns, cs, rfl⟩ := hNs.shape
      have HNs := hi hNs
      clear hNs
      go_wp2_with fail
      refine hK.out _ _ ?_ (fun q2 => ?_)
      · exact ⟨(id q1).1.below hb1, (id q1).2.1.below hb1, (id q1).2.2.1.below hb1, (id q1).2.2.2.below hb1⟩
      replace HT := hi (HT.out.below hb1)
      replace HNa0 := hi (HNa0.out.below hb1)
      replace HNa1 := hi (HNa1.out.below hb1)
      replace HNa := hi (HNa.out.below hb1)
      replace HNb0 := hi (HNb0.out.below hb1)
      replace HNb1 := hi (HNb1.out.below hb1)
      replace HNb := hi (HNb.out.below hb1)
      clear hK K q1 hb1
      have q1 := q2
      clear q2
      try simp only [Act.put, x2, x3, x4, x5, x6, x7]
      refine r1 (i := 28) rfl (fun K hK => ?_)
      obtain ⟨k0, k1⟩ := HT.out.two
      obtain ⟨f0, f1⟩ := HT.out.free2
      go_simp
      refine hK.out _ _ ?_ (fun q2 => ?_)
      · exact ⟨(((id q1).1.far (by dsimp only; omega) _).far (by dsimp only; omega) _), (((id q1).2.1.far (by dsimp only; omega) _).far (by dsimp only; omega) _), (((id q1).2.2.1.far (by dsimp only; omega) _).far (by dsimp only; omega) _), (((id q1).2.2.2.set (by dsimp only; omega) _).set (by dsimp only; omega) _)⟩
      replace HNa0 := hi (HNa0.out.res HT.out (ms) (.slice ads ns cs))
      replace HNa1 := hi (HNa1.out.res HT.out (ms) (.slice ads ns cs))
      replace HNa := hi (HNa.out.res HT.out (ms) (.slice ads ns cs))
      replace HNb0 := hi (HNb0.out.res HT.out (ms) (.slice ads ns cs))
      replace HNb1 := hi (HNb1.out.res HT.out (ms) (.slice ads ns cs))
      replace HNb := hi (HNb.out.res HT.out (ms) (.slice ads ns cs))
      replace HNs := hi (HNs.out.res HT.out (ms) (.slice ads ns cs))
      replace HT := hi (HT.out.set2 (.bool ms) (.slice ads ns cs))
      clear hK K q1 k0 k1 f0 f1
      have q1 := q2
      clear q2
      try simp only [Act.put, x2, x3, x4, x5, x6, x7]
      refine wpAnyH_done (by kernel_rfl) ?_ _
      go_wp2_with fail
      go_meet
      case rel => exact ⟨_, _, _, _, _, rfl, HT.out, HNs.out, id q1⟩
  case rest =>
  obtain ⟨g, mm, am, nm, cm, rfl, hT, hN, hS0⟩ := hcut
  replace HS0 := hi hS0
  have HT := hi hT
  have HN := hi hN
  clear hS0 hT hN hx1 hx2 hy1 hy2
  obtain ⟨c0, c1⟩ := HS0.out.1.two
  obtain ⟨c2, c3⟩ := HS0.out.2.1.two
  obtain ⟨c4, c5⟩ := HS0.out.2.2.1.two
  cases ne
  case true =>
    go_wp2
    go_ret
    exact ⟨by rw [HP.out]; simp, HS0.out.2.2.2.hb⟩
  case false =>
  go_wp2_with fail
  (with_reducible refine (C1.out _).mono ?_); rintro e w1 ⟨rfl, hb1⟩
  replace HT := hi (HT.out.below hb1)
  replace HN := hi (HN.out.below hb1)
  replace HS0 : Hid ((fun W => Var W (w.heap.size) [.int .i64 a.x, .int .i64 a.y] ∧ Var W (w.heap.size + 1) [.int .i64 b.x, .int .i64 b.y] ∧ Var W (w.heap.size + 1 + 1) [.int .i64 p.x, .int .i64 p.y] ∧ Grew w 3 W) w1) := ⟨HS0.out.1.below hb1, HS0.out.2.1.below hb1, HS0.out.2.2.1.below hb1, HS0.out.2.2.2.below hb1⟩
  clear c0 c1 c2 c3 c4 c5 hb1
  obtain ⟨c0, c1⟩ := HS0.out.1.two
  obtain ⟨c2, c3⟩ := HS0.out.2.1.two
  obtain ⟨c4, c5⟩ := HS0.out.2.2.1.two
  cases fa
  case false =>
    go_wp2
    go_ret
    exact ⟨by rw [HP.out]; simp, HS0.out.2.2.2.hb⟩
  case true =>
  clear q
  go_wp2_with fail
  (with_reducible refine (C2.out _).mono ?_); rintro e w1 ⟨rfl, hb1⟩
  replace HT := hi (HT.out.below hb1)
  replace HN := hi (HN.out.below hb1)
  replace HS0 : Hid ((fun W => Var W (w.heap.size) [.int .i64 a.x, .int .i64 a.y] ∧ Var W (w.heap.size + 1) [.int .i64 b.x, .int .i64 b.y] ∧ Var W (w.heap.size + 1 + 1) [.int .i64 p.x, .int .i64 p.y] ∧ Grew w 3 W) w1) := ⟨HS0.out.1.below hb1, HS0.out.2.1.below hb1, HS0.out.2.2.1.below hb1, HS0.out.2.2.2.below hb1⟩
  clear c0 c1 c2 c3 c4 c5 hb1
  obtain ⟨c0, c1⟩ := HS0.out.1.two
  obtain ⟨c2, c3⟩ := HS0.out.2.1.two
  obtain ⟨c4, c5⟩ := HS0.out.2.2.1.two
  cases fb
  case false =>
    go_wp2
    go_ret
    exact ⟨by rw [HP.out]; simp, HS0.out.2.2.2.hb⟩
  case true =>
  go_wp2_with fail
  (with_reducible refine (C3.out _).mono ?_); rintro e w1 ⟨rfl, hb1⟩
  replace HT := hi (HT.out.below hb1)
  replace HN := hi (HN.out.below hb1)
  replace HS0 : Hid ((fun W => Var W (w.heap.size) [.int .i64 a.x, .int .i64 a.y] ∧ Var W (w.heap.size + 1) [.int .i64 b.x, .int .i64 b.y] ∧ Var W (w.heap.size + 1 + 1) [.int .i64 p.x, .int .i64 p.y] ∧ Grew w 3 W) w1) := ⟨HS0.out.1.below hb1, HS0.out.2.1.below hb1, HS0.out.2.2.1.below hb1, HS0.out.2.2.2.below hb1⟩
  clear c0 c1 c2 c3 c4 c5 hb1
  obtain ⟨c0, c1⟩ := HS0.out.1.two
  obtain ⟨c2, c3⟩ := HS0.out.2.1.two
  obtain ⟨c4, c5⟩ := HS0.out.2.2.1.two
  cases fp
  case false =>
    go_wp2
    go_ret
    exact ⟨by rw [HP.out]; simp, HS0.out.2.2.2.hb⟩
  case true =>
  go_wp2_with fail
  (with_reducible refine (C4.out _).mono ?_); rintro e w1 ⟨rfl, hb1⟩
  replace HT := hi (HT.out.below hb1)
  replace HN := hi (HN.out.below hb1)
  replace HS0 : Hid ((fun W => Var W (w.heap.size) [.int .i64 a.x, .int .i64 a.y] ∧ Var W (w.heap.size + 1) [.int .i64 b.x, .int .i64 b.y] ∧ Var W (w.heap.size + 1 + 1) [.int .i64 p.x, .int .i64 p.y] ∧ Grew w 3 W) w1) := ⟨HS0.out.1.below hb1, HS0.out.2.1.below hb1, HS0.out.2.2.1.below hb1, HS0.out.2.2.2.below hb1⟩
  clear c0 c1 c2 c3 c4 c5 hb1
  obtain ⟨c0, c1⟩ := HS0.out.1.two
  obtain ⟨c2, c3⟩ := HS0.out.2.1.two
  obtain ⟨c4, c5⟩ := HS0.out.2.2.1.two
  rcases dec2 o 0 with ⟨z1, z2⟩ | ⟨z1, z2⟩
  case inr =>
    replace HP : Hid (onB a b p = false) := by unfold Hid; rw [HP.out, z2]; simp
    clear z2
    go_wp2
    go_ret
    exact ⟨by rw [HP.out]; rfl, HS0.out.2.2.2.hb⟩
  case inl =>
  replace HP : Hid (onB a b p = decide (0 ≤ sg3 (x1 * x2 + y1 * y2))) := by unfold Hid; rw [HP.out, z2]; simp
  clear z2
  obtain ⟨d0, d1⟩ := HT.out.two
  have HG := hi HS0.out.2.2.2
  clear HS0 c0 c1 c2 c3 c4 c5
  go_wp2_with fail
  (with_reducible refine (sign_num _ _ _ HN.out).mono ?_)
  rintro e w2 ⟨rfl, hb2⟩
  have hsg : sgZ (x1 * x2 + y1 * y2) = sg3 (x1 * x2 + y1 * y2) := rfl
  rw [hsg]
  generalize sg3 (x1 * x2 + y1 * y2) = s at *
  have HB := hi (HG.out.below hb2).hb
  clear hb2 hsg
  go_wp2
  go_ret
  exact ⟨by rw [HP.out]; rfl, HB.out⟩
end Go.Proofs.YtpjaefcmaiimlaaGreat

/-
  Contracts of the document's On, Inside.
-/
namespace Go.Proofs.YtpjaefcmaiimlaaGreat
open Go.RowKit

set_option maxHeartbeats 1000000 in
set_option maxRecDepth 100000 in
theorem refOnE_l (a b p : Pt) (w : World) : Calls Tryz.prog 86 #[.agg #[.int .i64 a.x, .int .i64 a.y], .agg #[.int .i64 b.x, .int .i64 b.y], .agg #[.int .i64 p.x, .int .i64 p.y]] w (Gives (.bool (onB a b p)) w) := by
  have C1 := hi (fun W => refOn_l a b p W)
  go_enter Tryz.func86, Tryz.ntmps86
  go_upto_region 1 with (fail)
  refine wp_abs (fun W => Var W w.heap.size [.int .i64 a.x, .int .i64 a.y] ∧ Var W (w.heap.size + 1) [.int .i64 b.x, .int .i64 b.y] ∧ Var W (w.heap.size + 1 + 1) [.int .i64 p.x, .int .i64 p.y] ∧ Grew w 3 W) ?_ ?_
  · exact ⟨(var2_new _ _ _ _ _ rfl).below (bl_alloc (bl_one _ _) _), (var2_new _ _ _ _ _ (by simp)).below (bl_one _ _), var2_new _ _ _ _ _ (by simp), by repeat (first | (with_reducible exact Below.refl _ _) | (with_reducible refine bl_alloc ?_ _) | (with_reducible refine Below.drew ?_) | (with_reducible refine below_drewN' ?_ _) | ((with_reducible refine bl_set ?_ ?_ _); (rotate_left; (dsimp only; omega)))), by simp⟩
  rintro W0 ⟨v1, v2, v3, hG⟩
  have HG := hi hG
  obtain ⟨c0, c1⟩ := v1.two
  obtain ⟨c2, c3⟩ := v2.two
  obtain ⟨c4, c5⟩ := v3.two
  clear v1 v2 v3 hG
  go_wp2_with fail
  (with_reducible refine (C1.out _).mono ?_); rintro e w1 ⟨rfl, hb1⟩
  go_wp2
  go_ret
  exact ⟨rfl, (HG.out.below hb1).hb⟩

set_option maxHeartbeats 1000000 in
set_option maxRecDepth 100000 in
theorem refInside_l (a b p : Pt) (w : World) : Calls Tryz.prog 39 #[.agg #[.int .i64 a.x, .int .i64 a.y], .agg #[.int .i64 b.x, .int .i64 b.y], .agg #[.int .i64 p.x, .int .i64 p.y]] w (Gives (.bool (insideB a b p)) w) := by
  have C1 := hi (fun W => refOn_l a b p W)
  have q1 := eqPt' p a
  have q2 := eqPt' p b
  have HP : Hid (insideB a b p = (onB a b p && !(eqB p a) && !(eqB p b))) := (inside_is a b p).symm
  generalize onB a b p = o at *
  generalize eqB p a = e1 at *
  generalize eqB p b = e2 at *
  go_enter Tryz.func39, Tryz.ntmps39
  go_upto_region 1 with (fail)
  refine wp_abs (fun W => Var W w.heap.size [.int .i64 a.x, .int .i64 a.y] ∧ Var W (w.heap.size + 1) [.int .i64 b.x, .int .i64 b.y] ∧ Var W (w.heap.size + 1 + 1) [.int .i64 p.x, .int .i64 p.y] ∧ Grew w 3 W) ?_ ?_
  · exact ⟨(var2_new _ _ _ _ _ rfl).below (bl_alloc (bl_one _ _) _), (var2_new _ _ _ _ _ (by simp)).below (bl_one _ _), var2_new _ _ _ _ _ (by simp), by repeat (first | (with_reducible exact Below.refl _ _) | (with_reducible refine bl_alloc ?_ _) | (with_reducible refine Below.drew ?_) | (with_reducible refine below_drewN' ?_ _) | ((with_reducible refine bl_set ?_ ?_ _); (rotate_left; (dsimp only; omega)))), by simp⟩
  rintro W0 ⟨v1, v2, v3, hG⟩
  have HV := hi (And.intro v1 (And.intro v2 (And.intro v3 hG)))
  obtain ⟨c0, c1⟩ := v1.two
  obtain ⟨c2, c3⟩ := v2.two
  obtain ⟨c4, c5⟩ := v3.two
  clear v1 v2 v3 hG
  go_wp2_with fail
  (with_reducible refine (C1.out _).mono ?_); rintro e w1 ⟨rfl, hb1⟩
  replace HV := hi (And.intro (HV.out.1.below hb1) (And.intro (HV.out.2.1.below hb1) (And.intro (HV.out.2.2.1.below hb1) (HV.out.2.2.2.below hb1))))
  clear c0 c1 c2 c3 c4 c5 hb1
  obtain ⟨c0, c1⟩ := HV.out.1.two
  obtain ⟨c2, c3⟩ := HV.out.2.1.two
  obtain ⟨c4, c5⟩ := HV.out.2.2.1.two
  have hcase : o = false ∨ (o = true ∧ e1 = true) ∨ (o = true ∧ e1 = false) := by cases o <;> cases e1 <;> simp
  rcases hcase with rfl | ⟨rfl, rfl⟩ | ⟨rfl, rfl⟩
  case inr.inr =>
    cases e2
    all_goals
      go_wp2
      go_ret
      exact ⟨by rw [HP.out]; rfl, HV.out.2.2.2.hb⟩
  all_goals
    go_wp2
    go_ret
    exact ⟨by rw [HP.out]; rfl, HV.out.2.2.2.hb⟩
end Go.Proofs.YtpjaefcmaiimlaaGreat
