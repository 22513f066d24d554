/-
  Contracts of pred's product, lifted.
-/
import Derived.Test.YtojfggnimmaemaaGeos
import Derived.Test.YtojfggnimmaemaaGeo0
namespace Go.Proofs.Ytojfggnimmaemaa
open Go.RowKit

theorem b127_bw {x y : Int} (hx : B127 x) (hy : B127 y) : BW x ∧ BW y ∧ BW (x * y) := by
  have h1 : Ab x 170141183460469231731687303715884105728 := by unfold B127 at hx; unfold Ab; omega
  have h2 : Ab y 170141183460469231731687303715884105728 := by unfold B127 at hy; unfold Ab; omega
  exact ⟨h1.bw (by decide), h2.bw (by decide), (h1.mul h2).bw (by decide)⟩
theorem wides2_wd (w : World) (x y : Int) (t : TypeId) : WidesAt (w.alloc (.cells #[.bool (QM x), .int .u64 (Q0 x), .int .u64 (Q1 x), .int .u64 (Q2 x), .int .u64 (Q3 x), .bool (QM y), .int .u64 (Q0 y), .int .u64 (Q1 y), .int .u64 (Q2 y), .int .u64 (Q3 y)] t)) w.heap.size 0 [wd x, wd y] :=
  wides2 w (wd x) (wd y) (wd_ok x) (wd_ok y) t
theorem wides3_wd (w : World) (x y z : Int) (t : TypeId) : WidesAt (w.alloc (.cells #[.bool (QM x), .int .u64 (Q0 x), .int .u64 (Q1 x), .int .u64 (Q2 x), .int .u64 (Q3 x), .bool (QM y), .int .u64 (Q0 y), .int .u64 (Q1 y), .int .u64 (Q2 y), .int .u64 (Q3 y), .bool (QM z), .int .u64 (Q0 z), .int .u64 (Q1 z), .int .u64 (Q2 z), .int .u64 (Q3 z)] t)) w.heap.size 0 [wd x, wd y, wd z] :=
  wides3 w (wd x) (wd y) (wd z) (wd_ok x) (wd_ok y) (wd_ok z) t

set_option maxHeartbeats 1000000 in
set_option maxRecDepth 100000 in
theorem product_l (x y : Int) (hx : B127 x) (hy : B127 y) (w : World) : Calls Try.prog 66 #[(.agg #[.int .u64 (LH (x)), .int .u64 (LL (x))]), (.agg #[.int .u64 (LH (y)), .int .u64 (LL (y))])] w (Gives (.agg #[.bool (QM (x * y)), .int .u64 (Q0 (x * y)), .int .u64 (Q1 (x * y)), .int .u64 (Q2 (x * y)), .int .u64 (Q3 (x * y))]) w) := by
  have hbw := hi (b127_bw hx hy)
  have sx := smB_yes hx
  have sy := smB_yes hy
  have HX := hi hx
  have HY := hi hy
  clear hx hy
  obtain ⟨bx, ebx⟩ : ∃ b, smB x = b := ⟨_, rfl⟩
  obtain ⟨by', eby⟩ : ∃ b, smB y = b := ⟨_, rfl⟩
  rw [ebx] at sx
  rw [eby] at sy
  have EX := hi ebx
  have EY := hi eby
  clear ebx eby
  have Cx : ∀ W, Calls Try.prog 86 #[(.agg #[.int .u64 (LH (x)), .int .u64 (LL (x))])] W (Gives (.tuple #[.int .i64 (S64 x), .bool bx]) W) := fun W => by have := small_l x W; rw [EX.out] at this; exact this
  have Cy : ∀ W, Calls Try.prog 86 #[(.agg #[.int .u64 (LH (y)), .int .u64 (LL (y))])] W (Gives (.tuple #[.int .i64 (S64 y), .bool by']) W) := fun W => by have := small_l y W; rw [EY.out] at this; exact this
  have CX := hi Cx
  have CY := hi Cy
  have SX := hi sx
  have SY := hi sy
  clear Cx Cy sx sy
  go_enter Try.func66, Try.ntmps66
  go_upto_region 1 with (fail)
  refine wp_abs (fun W => Var W (w.heap.size) [.int .u64 (LH (x)), .int .u64 (LL (x))] ∧ Var W (w.heap.size + 1) [.int .u64 (LH (y)), .int .u64 (LL (y))] ∧ Slot5 W (w.heap.size + 2) ∧ Grew w 3 W) ?_ ?_
  · exact ⟨(var2_new _ _ _ _ _ rfl).below (bl_alloc (bl_one _ _) _), (var2_new _ _ _ _ _ (by simp)).below (bl_one _ _), ⟨_, _, _, _, _, var5_new _ _ _ _ _ _ _ _ (by simp)⟩, by repeat (first | (with_reducible exact Below.refl _ _) | (with_reducible refine bl_alloc ?_ _) | (with_reducible refine Below.drew ?_) | (with_reducible refine below_drewN' ?_ _) | ((with_reducible refine bl_set ?_ ?_ _); (rotate_left; (dsimp only; omega)))), by simp⟩
  rintro W0 hS0
  have HS0 := hi hS0
  obtain ⟨c0, c1⟩ := hS0.1.two
  clear hS0
  go_wp2_with fail
  (with_reducible refine (CX.out _).mono ?_); rintro e w1 ⟨rfl, hb1⟩
  replace HS0 : Hid ((fun W => Var W (w.heap.size) [.int .u64 (LH (x)), .int .u64 (LL (x))] ∧ Var W (w.heap.size + 1) [.int .u64 (LH (y)), .int .u64 (LL (y))] ∧ Slot5 W (w.heap.size + 2) ∧ Grew w 3 W) w1) := ⟨HS0.out.1.below hb1, HS0.out.2.1.below hb1, HS0.out.2.2.1.below hb1, HS0.out.2.2.2.below hb1⟩
  clear c0 c1 hb1
  obtain ⟨c0, c1⟩ := HS0.out.2.1.two
  go_wp2_with fail
  (with_reducible refine (CY.out _).mono ?_); rintro e w2 ⟨rfl, hb1⟩
  replace HS0 : Hid ((fun W => Var W (w.heap.size) [.int .u64 (LH (x)), .int .u64 (LL (x))] ∧ Var W (w.heap.size + 1) [.int .u64 (LH (y)), .int .u64 (LL (y))] ∧ Slot5 W (w.heap.size + 2) ∧ Grew w 3 W) w2) := ⟨HS0.out.1.below hb1, HS0.out.2.1.below hb1, HS0.out.2.2.1.below hb1, HS0.out.2.2.2.below hb1⟩
  clear c0 c1 hb1
  go_upto_region 3 with (fail)
  go_cut [24] (fun bv W => bv = .bool (bx && by') ∧ (fun W => Var W (w.heap.size) [.int .u64 (LH (x)), .int .u64 (LL (x))] ∧ Var W (w.heap.size + 1) [.int .u64 (LH (y)), .int .u64 (LL (y))] ∧ Slot5 W (w.heap.size + 2) ∧ Grew w 3 W) W)
  case first =>
    cases bx <;> cases by'
    all_goals
      go_wp2_with fail
      go_meet
      case rel => exact ⟨rfl, HS0.out⟩
  case rest =>
  obtain ⟨rfl, hS0⟩ := hcut
  replace HS0 := hi hS0
  clear hS0
  have hcase : (bx = true ∧ by' = true) ∨ ((bx && by') = false) := by cases bx <;> cases by' <;> simp
  rcases hcase with ⟨rfl, rfl⟩ | hno
  · obtain ⟨sx1, sx2⟩ := SX.out rfl
    obtain ⟨sy1, sy2⟩ := SY.out rfl
    have RX : Hid (R64 x) := sx2
    have RY : Hid (R64 y) := sy2
    have hbp : Hid (B127 (x * y)) := by
      have h1 : Ab x 9223372036854775808 := ⟨sx2.1, by omega⟩
      have h2 : Ab y 9223372036854775808 := ⟨sy2.1, by omega⟩
      exact (h1.mul h2).b127 (by decide)
    rw [sx1, sy1]
    clear sx1 sx2 sy1 sy2
    go_wp2_with (first
      | (go_at_call 81; (with_reducible refine (times_r x y RX.out RY.out _).mono ?_); rintro e w3 ⟨rfl, hb3⟩)
      | (go_at_call 87; (with_reducible refine (longWide_l (x * y) hbp.out _).mono ?_); rintro e w4 ⟨rfl, hb4⟩
         obtain ⟨r0, r1, r2, r3, r4, vr⟩ := (HS0.out.2.2.1.below hb3).below hb4
         obtain ⟨k0, k1, k2, k3, k4⟩ := vr.five
         obtain ⟨f0, f1, f2, f3, f4⟩ := vr.free5)
      | go_in)
    refine bodyPost_ret (v := (.agg #[.bool (QM (x * y)), .int .u64 (Q0 (x * y)), .int .u64 (Q1 (x * y)), .int .u64 (Q2 (x * y)), .int .u64 (Q3 (x * y))])) (by simp [results, Try.results66, go_sem, k0, k1, k2, k3, k4]; done) rfl ⟨rfl, ?_⟩
    have hb := ((HS0.out.2.2.2.below hb3).below hb4).hb
    repeat (first | (with_reducible exact Below.refl _ _) | (with_reducible refine bl_alloc ?_ _) | (with_reducible refine Below.drew ?_) | (with_reducible refine below_drewN' ?_ _) | ((with_reducible refine bl_set ?_ ?_ _); (rotate_left; (dsimp only; omega))))
    exact hb
  · rw [hno]
    go_upto_region 5 with (fail)
    go_cut [9] (fun pv W => ∃ g, pv = .pointer (some ⟨g, 0, none⟩) ∧ Var W g [.bool (QM (x * y)), .int .u64 (Q0 (x * y)), .int .u64 (Q1 (x * y)), .int .u64 (Q2 (x * y)), .int .u64 (Q3 (x * y))] ∧ (fun W => Var W (w.heap.size) [.int .u64 (LH (x)), .int .u64 (LL (x))] ∧ Var W (w.heap.size + 1) [.int .u64 (LH (y)), .int .u64 (LL (y))] ∧ Slot5 W (w.heap.size + 2) ∧ Grew w 3 W) W)
    case first =>
      refine wp_region_held_drew (S := fun W => Var W (w.heap.size) [.int .u64 (LH (x)), .int .u64 (LL (x))] ∧ Var W (w.heap.size + 1) [.int .u64 (LH (y)), .int .u64 (LL (y))] ∧ Slot5 W (w.heap.size + 2) ∧ Grew w 3 W) (by kernel_rfl) ?_ (fun q1 => ?_)
      · exact ⟨HS0.out.1.below (bel_drew _), HS0.out.2.1.below (bel_drew _), HS0.out.2.2.1.below (bel_drew _), HS0.out.2.2.2.below (bel_drew _)⟩
      revert q1
      generalize World.drew _ = W1
      intro q1 
      refine tk (i := 0) (v := ?_) rfl (Or.inl ⟨by rfl, ?_⟩) ?_
      rotate_left
      · intro Wq hSw
        obtain ⟨k0, k1⟩ := (id hSw).1.two
        clear hSw
        go_simp
        all_goals (with_reducible rfl)
      try simp only [Act.put, x2, x4, x5, x6, x7]
      refine tk (i := 2) (v := ?_) rfl (Or.inl ⟨by rfl, ?_⟩) ?_
      rotate_left
      · intro Wq hSw
        obtain ⟨k0, k1⟩ := (id hSw).2.1.two
        clear hSw
        go_simp
        all_goals (with_reducible rfl)
      try simp only [Act.put, x2, x3, x4, x5, x6, x7]
      refine r2 (i := 1) (j := 9) rfl (fun K hK => ?_) rfl (fun K hK => ?_)
      · go_simp
        go_at_call 87
        (with_reducible refine (longWide_l x HX.out _).mono ?_); rintro e w1 ⟨rfl, hb1⟩
        go_wp2_with fail
        refine hK.out _ _ ?_ (fun q2 => ?_)
        · exact ⟨(id q1).1.below hb1, (id q1).2.1.below hb1, (id q1).2.2.1.below hb1, (id q1).2.2.2.below hb1⟩
        clear hK K q1 hb1
        have q1 := q2
        clear q2
        try simp only [Act.put, x2, x3, x4, x5, x6, x7]
        refine r2 (i := 3) (j := 9) rfl (fun K hK => ?_) rfl (fun K hK => ?_)
        · go_simp
          go_at_call 87
          (with_reducible refine (longWide_l y HY.out _).mono ?_); rintro e w1 ⟨rfl, hb1⟩
          go_wp2_with fail
          refine hK.out _ _ ?_ (fun q2 => ?_)
          · exact ⟨(id q1).1.below hb1, (id q1).2.1.below hb1, (id q1).2.2.1.below hb1, (id q1).2.2.2.below hb1⟩
          clear hK K q1 hb1
          have q1 := q2
          clear q2
          try simp only [Act.put, x2, x3, x4, x5, x6, x7]
          refine r2 (i := 4) (j := 9) rfl (fun K hK => ?_) rfl (fun K hK => ?_)
          · go_simp
            refine hK.out _ _ ?_ (fun q2 => ?_)
            · exact ⟨(id q1).1.below (bl_one _ _), (id q1).2.1.below (bl_one _ _), (id q1).2.2.1.below (bl_one _ _), (id q1).2.2.2.below (bl_one _ _)⟩
            have HL := hL_of (id q1).2.2.2 (fun W => wides2_wd W x y 73)
            clear hK K q1
            have q1 := q2
            clear q2
            try simp only [Act.put, x2, x3, x4, x5, x6, x7]
            revert HL
            revert q1
            generalize World.alloc _ _ = W2
            intro q1 HL
            refine r2 (i := 5) (j := 9) rfl (fun K hK => ?_) rfl (fun K hK => ?_)
            · go_simp
              go_at_call 67
              (with_reducible refine (mulQ x y hbw.out.1 hbw.out.2.1 hbw.out.2.2 _ _ _ HL.out).mono ?_); rintro e w1 ⟨rfl, hb1⟩
              go_wp2_with fail
              refine hK.out _ _ ?_ (fun q2 => ?_)
              · exact ⟨(id q1).1.below hb1, (id q1).2.1.below hb1, (id q1).2.2.1.below hb1, (id q1).2.2.2.below hb1⟩
              replace HL := hi (HL.out.below hb1)
              clear hK K q1 hb1
              have q1 := q2
              clear q2
              try simp only [Act.put, x2, x3, x4, x5, x6, x7]
              refine tk (i := 6) (v := ?_) rfl (Or.inl ⟨by rfl, ?_⟩) ?_
              rotate_left
              · intro Wq hSw
                clear hSw
                go_simp
                all_goals (with_reducible rfl)
              try simp only [Act.put, x2, x3, x4, x5, x6, x7]
              refine tk (i := 7) (v := ?_) rfl (Or.inl ⟨by rfl, ?_⟩) ?_
              rotate_left
              · intro Wq hSw
                clear hSw
                go_simp
                all_goals (with_reducible rfl)
              try simp only [Act.put, x2, x3, x4, x5, x6, x7]
              refine tk (i := 8) (v := ?_) rfl (Or.inl ⟨by rfl, ?_⟩) ?_
              rotate_left
              · intro Wq hSw
                clear hSw
                go_simp
                all_goals (with_reducible rfl)
              try simp only [Act.put, x2, x3, x4, x5, x6, x7]
              refine r1 (i := 9) rfl (fun K hK => ?_)
              go_simp
              refine hK.out _ _ ?_ (fun q2 => ?_)
              · exact ⟨(id q1).1.below (bl_one _ _), (id q1).2.1.below (bl_one _ _), (id q1).2.2.1.below (bl_one _ _), (id q1).2.2.2.below (bl_one _ _)⟩
              replace HL := hi (HL.out.below (al_of (id q2).2.2.2 (bl_one _ _)))
              have hge := (id q1).2.2.2.sz
              have HN := hi ((id q1).2.2.2.var5 (.bool false) (.int .u64 0) (.int .u64 0) (.int .u64 0) (.int .u64 0) 73)
              clear hK K q1
              have q1 := q2
              clear q2
              try simp only [Act.put, x2, x3, x4, x5, x6, x7]
              revert HL
              revert HN
              revert q1
              generalize World.alloc _ _ = W2
              intro q1 HN HL
              refine r1 (i := 10) rfl (fun K hK => ?_)
              obtain ⟨k0, k1, k2, k3, k4⟩ := HN.out.five
              obtain ⟨f0, f1, f2, f3, f4⟩ := HN.out.free5
              go_simp
              refine hK.out _ _ ?_ (fun q2 => ?_)
              · exact ⟨((((((id q1).1.far (by dsimp only; omega) _).far (by dsimp only; omega) _).far (by dsimp only; omega) _).far (by dsimp only; omega) _).far (by dsimp only; omega) _), ((((((id q1).2.1.far (by dsimp only; omega) _).far (by dsimp only; omega) _).far (by dsimp only; omega) _).far (by dsimp only; omega) _).far (by dsimp only; omega) _), ((((((id q1).2.2.1.far (by dsimp only; omega) _).far (by dsimp only; omega) _).far (by dsimp only; omega) _).far (by dsimp only; omega) _).far (by dsimp only; omega) _), ((((((id q1).2.2.2.set (by dsimp only; omega) _).set (by dsimp only; omega) _).set (by dsimp only; omega) _).set (by dsimp only; omega) _).set (by dsimp only; omega) _)⟩
              have VN := hi (HN.out.set5 (.bool (QM (x * y))) (.int .u64 (Q0 (x * y))) (.int .u64 (Q1 (x * y))) (.int .u64 (Q2 (x * y))) (.int .u64 (Q3 (x * y))))
              clear HL
              clear hK K q1 HN k0 k1 k2 k3 k4 f0 f1 f2 f3 f4
              have q1 := q2
              clear q2
              try simp only [Act.put, x2, x3, x4, x5, x6, x7]
              refine tk (i := 11) (v := ?_) rfl (Or.inl ⟨by rfl, ?_⟩) ?_
              rotate_left
              · intro Wq hSw
                clear hSw
                go_simp
                all_goals (with_reducible rfl)
              try simp only [Act.put, x2, x3, x4, x5, x6, x7]
              refine wpAnyH_done (by kernel_rfl) ?_ _
              go_wp2_with fail
              go_meet
              case rel => exact ⟨_, rfl, VN.out, id q1⟩
            · go_simp
              refine hK.out _ _ ?_ (fun q2 => ?_)
              · exact ⟨(id q1).1.below (bl_one _ _), (id q1).2.1.below (bl_one _ _), (id q1).2.2.1.below (bl_one _ _), (id q1).2.2.2.below (bl_one _ _)⟩
              replace HL := hi (HL.out.below (al_of (id q2).2.2.2 (bl_one _ _)))
              have hge := (id q1).2.2.2.sz
              have HN := hi ((id q1).2.2.2.var5 (.bool false) (.int .u64 0) (.int .u64 0) (.int .u64 0) (.int .u64 0) 73)
              clear hK K q1
              have q1 := q2
              clear q2
              try simp only [Act.put, x2, x3, x4, x5, x6, x7]
              revert HL
              revert HN
              revert q1
              generalize World.alloc _ _ = W2
              intro q1 HN HL
              refine r1 (i := 5) rfl (fun K hK => ?_)
              go_simp
              go_at_call 67
              (with_reducible refine (mulQ x y hbw.out.1 hbw.out.2.1 hbw.out.2.2 _ _ _ HL.out).mono ?_); rintro e w1 ⟨rfl, hb1⟩
              go_wp2_with fail
              refine hK.out _ _ ?_ (fun q2 => ?_)
              · exact ⟨(id q1).1.below hb1, (id q1).2.1.below hb1, (id q1).2.2.1.below hb1, (id q1).2.2.2.below hb1⟩
              replace HL := hi (HL.out.below hb1)
              replace HN := hi (HN.out.below hb1)
              clear hK K q1 hb1
              have q1 := q2
              clear q2
              try simp only [Act.put, x2, x3, x4, x5, x6, x7]
              refine tk (i := 6) (v := ?_) rfl (Or.inl ⟨by rfl, ?_⟩) ?_
              rotate_left
              · intro Wq hSw
                clear hSw
                go_simp
                all_goals (with_reducible rfl)
              try simp only [Act.put, x2, x3, x4, x5, x6, x7]
              refine tk (i := 7) (v := ?_) rfl (Or.inl ⟨by rfl, ?_⟩) ?_
              rotate_left
              · intro Wq hSw
                clear hSw
                go_simp
                all_goals (with_reducible rfl)
              try simp only [Act.put, x2, x3, x4, x5, x6, x7]
              refine tk (i := 8) (v := ?_) rfl (Or.inl ⟨by rfl, ?_⟩) ?_
              rotate_left
              · intro Wq hSw
                clear hSw
                go_simp
                all_goals (with_reducible rfl)
              try simp only [Act.put, x2, x3, x4, x5, x6, x7]
              refine r1 (i := 10) rfl (fun K hK => ?_)
              obtain ⟨k0, k1, k2, k3, k4⟩ := HN.out.five
              obtain ⟨f0, f1, f2, f3, f4⟩ := HN.out.free5
              go_simp
              refine hK.out _ _ ?_ (fun q2 => ?_)
              · exact ⟨((((((id q1).1.far (by dsimp only; omega) _).far (by dsimp only; omega) _).far (by dsimp only; omega) _).far (by dsimp only; omega) _).far (by dsimp only; omega) _), ((((((id q1).2.1.far (by dsimp only; omega) _).far (by dsimp only; omega) _).far (by dsimp only; omega) _).far (by dsimp only; omega) _).far (by dsimp only; omega) _), ((((((id q1).2.2.1.far (by dsimp only; omega) _).far (by dsimp only; omega) _).far (by dsimp only; omega) _).far (by dsimp only; omega) _).far (by dsimp only; omega) _), ((((((id q1).2.2.2.set (by dsimp only; omega) _).set (by dsimp only; omega) _).set (by dsimp only; omega) _).set (by dsimp only; omega) _).set (by dsimp only; omega) _)⟩
              have VN := hi (HN.out.set5 (.bool (QM (x * y))) (.int .u64 (Q0 (x * y))) (.int .u64 (Q1 (x * y))) (.int .u64 (Q2 (x * y))) (.int .u64 (Q3 (x * y))))
              clear HL
              clear hK K q1 HN k0 k1 k2 k3 k4 f0 f1 f2 f3 f4
              have q1 := q2
              clear q2
              try simp only [Act.put, x2, x3, x4, x5, x6, x7]
              refine tk (i := 11) (v := ?_) rfl (Or.inl ⟨by rfl, ?_⟩) ?_
              rotate_left
              · intro Wq hSw
                clear hSw
                go_simp
                all_goals (with_reducible rfl)
              try simp only [Act.put, x2, x3, x4, x5, x6, x7]
              refine wpAnyH_done (by kernel_rfl) ?_ _
              go_wp2_with fail
              go_meet
              case rel => exact ⟨_, rfl, VN.out, id q1⟩
          · go_simp
            refine hK.out _ _ ?_ (fun q2 => ?_)
            · exact ⟨(id q1).1.below (bl_one _ _), (id q1).2.1.below (bl_one _ _), (id q1).2.2.1.below (bl_one _ _), (id q1).2.2.2.below (bl_one _ _)⟩
            have hge := (id q1).2.2.2.sz
            have HN := hi ((id q1).2.2.2.var5 (.bool false) (.int .u64 0) (.int .u64 0) (.int .u64 0) (.int .u64 0) 73)
            clear hK K q1
            have q1 := q2
            clear q2
            try simp only [Act.put, x2, x3, x4, x5, x6, x7]
            revert HN
            revert q1
            generalize World.alloc _ _ = W2
            intro q1 HN
            refine r1 (i := 4) rfl (fun K hK => ?_)
            go_simp
            refine hK.out _ _ ?_ (fun q2 => ?_)
            · exact ⟨(id q1).1.below (bl_one _ _), (id q1).2.1.below (bl_one _ _), (id q1).2.2.1.below (bl_one _ _), (id q1).2.2.2.below (bl_one _ _)⟩
            replace HN := hi (HN.out.below (al_of (id q2).2.2.2 (bl_one _ _)))
            have HL := hL_of (id q1).2.2.2 (fun W => wides2_wd W x y 73)
            clear hK K q1
            have q1 := q2
            clear q2
            try simp only [Act.put, x2, x3, x4, x5, x6, x7]
            revert HN
            revert HL
            revert q1
            generalize World.alloc _ _ = W2
            intro q1 HL HN
            refine r1 (i := 5) rfl (fun K hK => ?_)
            go_simp
            go_at_call 67
            (with_reducible refine (mulQ x y hbw.out.1 hbw.out.2.1 hbw.out.2.2 _ _ _ HL.out).mono ?_); rintro e w1 ⟨rfl, hb1⟩
            go_wp2_with fail
            refine hK.out _ _ ?_ (fun q2 => ?_)
            · exact ⟨(id q1).1.below hb1, (id q1).2.1.below hb1, (id q1).2.2.1.below hb1, (id q1).2.2.2.below hb1⟩
            replace HN := hi (HN.out.below hb1)
            replace HL := hi (HL.out.below hb1)
            clear hK K q1 hb1
            have q1 := q2
            clear q2
            try simp only [Act.put, x2, x3, x4, x5, x6, x7]
            refine tk (i := 6) (v := ?_) rfl (Or.inl ⟨by rfl, ?_⟩) ?_
            rotate_left
            · intro Wq hSw
              clear hSw
              go_simp
              all_goals (with_reducible rfl)
            try simp only [Act.put, x2, x3, x4, x5, x6, x7]
            refine tk (i := 7) (v := ?_) rfl (Or.inl ⟨by rfl, ?_⟩) ?_
            rotate_left
            · intro Wq hSw
              clear hSw
              go_simp
              all_goals (with_reducible rfl)
            try simp only [Act.put, x2, x3, x4, x5, x6, x7]
            refine tk (i := 8) (v := ?_) rfl (Or.inl ⟨by rfl, ?_⟩) ?_
            rotate_left
            · intro Wq hSw
              clear hSw
              go_simp
              all_goals (with_reducible rfl)
            try simp only [Act.put, x2, x3, x4, x5, x6, x7]
            refine r1 (i := 10) rfl (fun K hK => ?_)
            obtain ⟨k0, k1, k2, k3, k4⟩ := HN.out.five
            obtain ⟨f0, f1, f2, f3, f4⟩ := HN.out.free5
            go_simp
            refine hK.out _ _ ?_ (fun q2 => ?_)
            · exact ⟨((((((id q1).1.far (by dsimp only; omega) _).far (by dsimp only; omega) _).far (by dsimp only; omega) _).far (by dsimp only; omega) _).far (by dsimp only; omega) _), ((((((id q1).2.1.far (by dsimp only; omega) _).far (by dsimp only; omega) _).far (by dsimp only; omega) _).far (by dsimp only; omega) _).far (by dsimp only; omega) _), ((((((id q1).2.2.1.far (by dsimp only; omega) _).far (by dsimp only; omega) _).far (by dsimp only; omega) _).far (by dsimp only; omega) _).far (by dsimp only; omega) _), ((((((id q1).2.2.2.set (by dsimp only; omega) _).set (by dsimp only; omega) _).set (by dsimp only; omega) _).set (by dsimp only; omega) _).set (by dsimp only; omega) _)⟩
            have VN := hi (HN.out.set5 (.bool (QM (x * y))) (.int .u64 (Q0 (x * y))) (.int .u64 (Q1 (x * y))) (.int .u64 (Q2 (x * y))) (.int .u64 (Q3 (x * y))))
            clear HL
            clear hK K q1 HN k0 k1 k2 k3 k4 f0 f1 f2 f3 f4
            have q1 := q2
            clear q2
            try simp only [Act.put, x2, x3, x4, x5, x6, x7]
            refine tk (i := 11) (v := ?_) rfl (Or.inl ⟨by rfl, ?_⟩) ?_
            rotate_left
            · intro Wq hSw
              clear hSw
              go_simp
              all_goals (with_reducible rfl)
            try simp only [Act.put, x2, x3, x4, x5, x6, x7]
            refine wpAnyH_done (by kernel_rfl) ?_ _
            go_wp2_with fail
            go_meet
            case rel => exact ⟨_, rfl, VN.out, id q1⟩
        · go_simp
          refine hK.out _ _ ?_ (fun q2 => ?_)
          · exact ⟨(id q1).1.below (bl_one _ _), (id q1).2.1.below (bl_one _ _), (id q1).2.2.1.below (bl_one _ _), (id q1).2.2.2.below (bl_one _ _)⟩
          have hge := (id q1).2.2.2.sz
          have HN := hi ((id q1).2.2.2.var5 (.bool false) (.int .u64 0) (.int .u64 0) (.int .u64 0) (.int .u64 0) 73)
          clear hK K q1
          have q1 := q2
          clear q2
          try simp only [Act.put, x2, x3, x4, x5, x6, x7]
          revert HN
          revert q1
          generalize World.alloc _ _ = W2
          intro q1 HN
          refine r1 (i := 3) rfl (fun K hK => ?_)
          go_simp
          go_at_call 87
          (with_reducible refine (longWide_l y HY.out _).mono ?_); rintro e w1 ⟨rfl, hb1⟩
          go_wp2_with fail
          refine hK.out _ _ ?_ (fun q2 => ?_)
          · exact ⟨(id q1).1.below hb1, (id q1).2.1.below hb1, (id q1).2.2.1.below hb1, (id q1).2.2.2.below hb1⟩
          replace HN := hi (HN.out.below hb1)
          clear hK K q1 hb1
          have q1 := q2
          clear q2
          try simp only [Act.put, x2, x3, x4, x5, x6, x7]
          refine r1 (i := 4) rfl (fun K hK => ?_)
          go_simp
          refine hK.out _ _ ?_ (fun q2 => ?_)
          · exact ⟨(id q1).1.below (bl_one _ _), (id q1).2.1.below (bl_one _ _), (id q1).2.2.1.below (bl_one _ _), (id q1).2.2.2.below (bl_one _ _)⟩
          replace HN := hi (HN.out.below (al_of (id q2).2.2.2 (bl_one _ _)))
          have HL := hL_of (id q1).2.2.2 (fun W => wides2_wd W x y 73)
          clear hK K q1
          have q1 := q2
          clear q2
          try simp only [Act.put, x2, x3, x4, x5, x6, x7]
          revert HN
          revert HL
          revert q1
          generalize World.alloc _ _ = W2
          intro q1 HL HN
          refine r1 (i := 5) rfl (fun K hK => ?_)
          go_simp
          go_at_call 67
          (with_reducible refine (mulQ x y hbw.out.1 hbw.out.2.1 hbw.out.2.2 _ _ _ HL.out).mono ?_); rintro e w1 ⟨rfl, hb1⟩
          go_wp2_with fail
          refine hK.out _ _ ?_ (fun q2 => ?_)
          · exact ⟨(id q1).1.below hb1, (id q1).2.1.below hb1, (id q1).2.2.1.below hb1, (id q1).2.2.2.below hb1⟩
          replace HN := hi (HN.out.below hb1)
          replace HL := hi (HL.out.below hb1)
          clear hK K q1 hb1
          have q1 := q2
          clear q2
          try simp only [Act.put, x2, x3, x4, x5, x6, x7]
          refine tk (i := 6) (v := ?_) rfl (Or.inl ⟨by rfl, ?_⟩) ?_
          rotate_left
          · intro Wq hSw
            clear hSw
            go_simp
            all_goals (with_reducible rfl)
          try simp only [Act.put, x2, x3, x4, x5, x6, x7]
          refine tk (i := 7) (v := ?_) rfl (Or.inl ⟨by rfl, ?_⟩) ?_
          rotate_left
          · intro Wq hSw
            clear hSw
            go_simp
            all_goals (with_reducible rfl)
          try simp only [Act.put, x2, x3, x4, x5, x6, x7]
          refine tk (i := 8) (v := ?_) rfl (Or.inl ⟨by rfl, ?_⟩) ?_
          rotate_left
          · intro Wq hSw
            clear hSw
            go_simp
            all_goals (with_reducible rfl)
          try simp only [Act.put, x2, x3, x4, x5, x6, x7]
          refine r1 (i := 10) rfl (fun K hK => ?_)
          obtain ⟨k0, k1, k2, k3, k4⟩ := HN.out.five
          obtain ⟨f0, f1, f2, f3, f4⟩ := HN.out.free5
          go_simp
          refine hK.out _ _ ?_ (fun q2 => ?_)
          · exact ⟨((((((id q1).1.far (by dsimp only; omega) _).far (by dsimp only; omega) _).far (by dsimp only; omega) _).far (by dsimp only; omega) _).far (by dsimp only; omega) _), ((((((id q1).2.1.far (by dsimp only; omega) _).far (by dsimp only; omega) _).far (by dsimp only; omega) _).far (by dsimp only; omega) _).far (by dsimp only; omega) _), ((((((id q1).2.2.1.far (by dsimp only; omega) _).far (by dsimp only; omega) _).far (by dsimp only; omega) _).far (by dsimp only; omega) _).far (by dsimp only; omega) _), ((((((id q1).2.2.2.set (by dsimp only; omega) _).set (by dsimp only; omega) _).set (by dsimp only; omega) _).set (by dsimp only; omega) _).set (by dsimp only; omega) _)⟩
          have VN := hi (HN.out.set5 (.bool (QM (x * y))) (.int .u64 (Q0 (x * y))) (.int .u64 (Q1 (x * y))) (.int .u64 (Q2 (x * y))) (.int .u64 (Q3 (x * y))))
          clear HL
          clear hK K q1 HN k0 k1 k2 k3 k4 f0 f1 f2 f3 f4
          have q1 := q2
          clear q2
          try simp only [Act.put, x2, x3, x4, x5, x6, x7]
          refine tk (i := 11) (v := ?_) rfl (Or.inl ⟨by rfl, ?_⟩) ?_
          rotate_left
          · intro Wq hSw
            clear hSw
            go_simp
            all_goals (with_reducible rfl)
          try simp only [Act.put, x2, x3, x4, x5, x6, x7]
          refine wpAnyH_done (by kernel_rfl) ?_ _
          go_wp2_with fail
          go_meet
          case rel => exact ⟨_, rfl, VN.out, id q1⟩
      · go_simp
        refine hK.out _ _ ?_ (fun q2 => ?_)
        · exact ⟨(id q1).1.below (bl_one _ _), (id q1).2.1.below (bl_one _ _), (id q1).2.2.1.below (bl_one _ _), (id q1).2.2.2.below (bl_one _ _)⟩
        have hge := (id q1).2.2.2.sz
        have HN := hi ((id q1).2.2.2.var5 (.bool false) (.int .u64 0) (.int .u64 0) (.int .u64 0) (.int .u64 0) 73)
        clear hK K q1
        have q1 := q2
        clear q2
        try simp only [Act.put, x2, x3, x4, x5, x6, x7]
        revert HN
        revert q1
        generalize World.alloc _ _ = W2
        intro q1 HN
        refine r1 (i := 1) rfl (fun K hK => ?_)
        go_simp
        go_at_call 87
        (with_reducible refine (longWide_l x HX.out _).mono ?_); rintro e w1 ⟨rfl, hb1⟩
        go_wp2_with fail
        refine hK.out _ _ ?_ (fun q2 => ?_)
        · exact ⟨(id q1).1.below hb1, (id q1).2.1.below hb1, (id q1).2.2.1.below hb1, (id q1).2.2.2.below hb1⟩
        replace HN := hi (HN.out.below hb1)
        clear hK K q1 hb1
        have q1 := q2
        clear q2
        try simp only [Act.put, x2, x3, x4, x5, x6, x7]
        refine r1 (i := 3) rfl (fun K hK => ?_)
        go_simp
        go_at_call 87
        (with_reducible refine (longWide_l y HY.out _).mono ?_); rintro e w1 ⟨rfl, hb1⟩
        go_wp2_with fail
        refine hK.out _ _ ?_ (fun q2 => ?_)
        · exact ⟨(id q1).1.below hb1, (id q1).2.1.below hb1, (id q1).2.2.1.below hb1, (id q1).2.2.2.below hb1⟩
        replace HN := hi (HN.out.below hb1)
        clear hK K q1 hb1
        have q1 := q2
        clear q2
        try simp only [Act.put, x2, x3, x4, x5, x6, x7]
        refine r1 (i := 4) rfl (fun K hK => ?_)
        go_simp
        refine hK.out _ _ ?_ (fun q2 => ?_)
        · exact ⟨(id q1).1.below (bl_one _ _), (id q1).2.1.below (bl_one _ _), (id q1).2.2.1.below (bl_one _ _), (id q1).2.2.2.below (bl_one _ _)⟩
        replace HN := hi (HN.out.below (al_of (id q2).2.2.2 (bl_one _ _)))
        have HL := hL_of (id q1).2.2.2 (fun W => wides2_wd W x y 73)
        clear hK K q1
        have q1 := q2
        clear q2
        try simp only [Act.put, x2, x3, x4, x5, x6, x7]
        revert HN
        revert HL
        revert q1
        generalize World.alloc _ _ = W2
        intro q1 HL HN
        refine r1 (i := 5) rfl (fun K hK => ?_)
        go_simp
        go_at_call 67
        (with_reducible refine (mulQ x y hbw.out.1 hbw.out.2.1 hbw.out.2.2 _ _ _ HL.out).mono ?_); rintro e w1 ⟨rfl, hb1⟩
        go_wp2_with fail
        refine hK.out _ _ ?_ (fun q2 => ?_)
        · exact ⟨(id q1).1.below hb1, (id q1).2.1.below hb1, (id q1).2.2.1.below hb1, (id q1).2.2.2.below hb1⟩
        replace HN := hi (HN.out.below hb1)
        replace HL := hi (HL.out.below hb1)
        clear hK K q1 hb1
        have q1 := q2
        clear q2
        try simp only [Act.put, x2, x3, x4, x5, x6, x7]
        refine tk (i := 6) (v := ?_) rfl (Or.inl ⟨by rfl, ?_⟩) ?_
        rotate_left
        · intro Wq hSw
          clear hSw
          go_simp
          all_goals (with_reducible rfl)
        try simp only [Act.put, x2, x3, x4, x5, x6, x7]
        refine tk (i := 7) (v := ?_) rfl (Or.inl ⟨by rfl, ?_⟩) ?_
        rotate_left
        · intro Wq hSw
          clear hSw
          go_simp
          all_goals (with_reducible rfl)
        try simp only [Act.put, x2, x3, x4, x5, x6, x7]
        refine tk (i := 8) (v := ?_) rfl (Or.inl ⟨by rfl, ?_⟩) ?_
        rotate_left
        · intro Wq hSw
          clear hSw
          go_simp
          all_goals (with_reducible rfl)
        try simp only [Act.put, x2, x3, x4, x5, x6, x7]
        refine r1 (i := 10) rfl (fun K hK => ?_)
        obtain ⟨k0, k1, k2, k3, k4⟩ := HN.out.five
        obtain ⟨f0, f1, f2, f3, f4⟩ := HN.out.free5
        go_simp
        refine hK.out _ _ ?_ (fun q2 => ?_)
        · exact ⟨((((((id q1).1.far (by dsimp only; omega) _).far (by dsimp only; omega) _).far (by dsimp only; omega) _).far (by dsimp only; omega) _).far (by dsimp only; omega) _), ((((((id q1).2.1.far (by dsimp only; omega) _).far (by dsimp only; omega) _).far (by dsimp only; omega) _).far (by dsimp only; omega) _).far (by dsimp only; omega) _), ((((((id q1).2.2.1.far (by dsimp only; omega) _).far (by dsimp only; omega) _).far (by dsimp only; omega) _).far (by dsimp only; omega) _).far (by dsimp only; omega) _), ((((((id q1).2.2.2.set (by dsimp only; omega) _).set (by dsimp only; omega) _).set (by dsimp only; omega) _).set (by dsimp only; omega) _).set (by dsimp only; omega) _)⟩
        have VN := hi (HN.out.set5 (.bool (QM (x * y))) (.int .u64 (Q0 (x * y))) (.int .u64 (Q1 (x * y))) (.int .u64 (Q2 (x * y))) (.int .u64 (Q3 (x * y))))
        clear HL
        clear hK K q1 HN k0 k1 k2 k3 k4 f0 f1 f2 f3 f4
        have q1 := q2
        clear q2
        try simp only [Act.put, x2, x3, x4, x5, x6, x7]
        refine tk (i := 11) (v := ?_) rfl (Or.inl ⟨by rfl, ?_⟩) ?_
        rotate_left
        · intro Wq hSw
          clear hSw
          go_simp
          all_goals (with_reducible rfl)
        try simp only [Act.put, x2, x3, x4, x5, x6, x7]
        refine wpAnyH_done (by kernel_rfl) ?_ _
        go_wp2_with fail
        go_meet
        case rel => exact ⟨_, rfl, VN.out, id q1⟩
    case rest =>
      obtain ⟨g, rfl, vg, hS⟩ := hcut
      obtain ⟨k0, k1, k2, k3, k4⟩ := vg.five
      obtain ⟨r0, r1, r2, r3, r4, vr⟩ := hS.2.2.1
      obtain ⟨d0, d1, d2, d3, d4⟩ := vr.five
      obtain ⟨f0, f1, f2, f3, f4⟩ := vr.free5
      have HG := hi hS.2.2.2
      clear hS vr vg HS0
      go_wp2_with fail
      refine bodyPost_ret (v := (.agg #[.bool (QM (x * y)), .int .u64 (Q0 (x * y)), .int .u64 (Q1 (x * y)), .int .u64 (Q2 (x * y)), .int .u64 (Q3 (x * y))])) (by simp [results, Try.results66, go_sem, d0, d1, d2, d3, d4]; done) rfl ⟨rfl, ?_⟩
      have hb := HG.out.hb
      repeat (first | (with_reducible exact Below.refl _ _) | (with_reducible refine bl_alloc ?_ _) | (with_reducible refine Below.drew ?_) | (with_reducible refine below_drewN' ?_ _) | ((with_reducible refine bl_set ?_ ?_ _); (rotate_left; (dsimp only; omega))))
      exact hb
end Go.Proofs.Ytojfggnimmaemaa
