/-
  The walk of the law InputRanges: its second reading, and all of it.
-/
import Derived.Test.YtdpbmkfgolemjaaDoorRdIRgs
set_option linter.unusedVariables false
set_option linter.unusedSimpArgs false
set_option linter.deprecated false
namespace Go.Proofs.YtdpbmkfgolemjaaDoor
open Go.RowKit Go.Maps

set_option maxHeartbeats 16000000 in
set_option maxRecDepth 100000 in
theorem irgB5 : irgA5.val := by
  intro R0
  unhygienic intros
  have KN := Lib.hid (fun W h => known_l5 W h)
  have HB0 := HB1
  go_upto_region 18 with (fail)
  obtain ⟨hux, hux4⟩ := HUX.out
  have l3 : ((k : Int) < (L : Int)) = True := eq_true (by have := HJK.out; omega)
  have l4 : (k < L) = True := eq_true HJK.out.2.1
  have l5 : ((0 : Int) ≤ (k : Int)) = True := eq_true (by omega)
  have s1 : ((a : Int) ≤ (s.size : Int)) = True := eq_true (by have := HAS2.out; omega)
  have s2 : (a ≤ s.size) = True := eq_true (by have := HAS2.out; omega)
  have s3 : ((0 : Int) ≤ (a : Int)) = True := eq_true (by omega)
  have s4 : ((b : Int) ≤ (s.size : Int)) = True := eq_true (by have := HAS2.out; omega)
  have s5 : (b ≤ s.size) = True := eq_true (by have := HAS2.out; omega)
  have s6 : ((0 : Int) ≤ (b : Int)) = True := eq_true (by omega)
  have w1 : (a : Int) + (t.size : Int) = (b : Int) := by have := HB2.out; omega
  have hbs : b ≤ 100000 := by have := HAS2.out; have := HSZ.out; omega
  obtain ⟨v1, hvx1⟩ : ∃ v1, u ++ ⟨#[45]⟩ = v1 := ⟨_, rfl⟩
  have hvn1 : nums v1 = (nums s).take a ++ [45] := by rw [← hvx1, nums_append, HUN.out.1]; rfl
  obtain ⟨v5, hvx5⟩ : ∃ v5, v1 ++ ts = v5 := ⟨_, rfl⟩
  have hvn5 : nums v5 = (nums s).take a ++ (45 :: nums ts) := by rw [← hvx5, nums_append, hvn1, List.append_assoc]; rfl
  obtain ⟨v3, hvx3⟩ : ∃ v3, v5 ++ u4 = v3 := ⟨_, rfl⟩
  have HV3 := Lib.hid (HUB.out v3 true (by rw [← hvx3, nums_append, hvn5, HUN.out.2.1, ← HB2.out, List.append_assoc]; rfl))
  have hz1 : v1.size = u.size + 1 := by rw [← hvx1, ByteArray.size_append]; rfl
  have hz5 : v5.size = v1.size + ts.size := by rw [← hvx5, ByteArray.size_append]
  have HZ5 : Hid (u.size + 1 ≤ 9223372036854775807 ∧ v1.size + ts.size ≤ 9223372036854775807 ∧ v5.size + u4.size ≤ 9223372036854775807) := by have := HUN.out.2.2; have := HNT.out.2; unfold Hid; omega
  clear hvn5 hz5 hz1 hvn1
  have hq0 : (9223372036854775807 < u.size + 1) = False := eq_false (Nat.not_lt.2 HZ5.out.1)
  have hq1 : (9223372036854775807 < v1.size + ts.size) = False := eq_false (Nat.not_lt.2 HZ5.out.2.1)
  have hq2 : (9223372036854775807 < v5.size + u4.size) = False := eq_false (Nat.not_lt.2 HZ5.out.2.2)
  have w2 := (wnat5 hbs).1
  have w2' := (wnat5 hbs).2
  clear hbs
  go_cut [18, 19] (fun v e W => v = .int .i64 (a : Int) ∧ e = .int .i64 10 ∧ Below w.heap.size w W ∧ TokCells W (some ⟨g, o, none⟩) (wordsOf s))
  case first =>
    refine wp_region_held_drew (S := fun V => Below w.heap.size w V ∧ TokCells V (some ⟨g, o, none⟩) (wordsOf s)) (by kernel_rfl) ?_ (fun hHeld => ?_)
    · exact ⟨bl_trans HB0.out.1 (bel_drew _), tok_below6 HB0.out.2 (bel_drew _)⟩
    revert hHeld
    generalize World.drew _ = W1
    intro hHeld
    refine wpAnyH_take (i := 0) (v := ?_) rfl (by kernel_rfl) (by kernel_rfl) (by kernel_rfl) (fun _ _ _ h => h) (Or.inl ⟨by rfl, ?_⟩) (by assumption) ?_
    rotate_left
    · intro Wq hSw
      clear hSw
      go_simp
      all_goals (with_reducible rfl)
    try simp only [Act.put, List.getElem_toArray, List.getElem_cons_zero, List.setIfInBounds_toArray, List.set_cons_zero, List.set_cons_succ]
    refine wpAnyH_take (i := 1) (v := ?_) rfl (by kernel_rfl) (by kernel_rfl) (by kernel_rfl) (fun _ _ _ h => h) (Or.inl ⟨by rfl, ?_⟩) (by assumption) ?_
    rotate_left
    · intro Wq hSw
      clear hSw
      go_simp
      all_goals (with_reducible rfl)
    try simp only [Act.put, List.getElem_toArray, List.getElem_cons_succ, List.getElem_cons_zero, List.setIfInBounds_toArray, List.set_cons_zero, List.set_cons_succ]
    refine wpAnyH_take (i := 2) (v := ?_) rfl (by kernel_rfl) (by kernel_rfl) (by kernel_rfl) (fun _ _ _ h => h) (Or.inl ⟨by rfl, ?_⟩) (by assumption) ?_
    rotate_left
    · intro Wq hSw
      clear hSw
      go_simp
      all_goals (with_reducible rfl)
    try simp only [Act.put, List.getElem_toArray, List.getElem_cons_succ, List.getElem_cons_zero, List.setIfInBounds_toArray, List.set_cons_zero, List.set_cons_succ]
    refine wpAnyH_take (i := 3) (v := ?_) rfl (by kernel_rfl) (by kernel_rfl) (by kernel_rfl) (fun _ _ _ h => h) (Or.inl ⟨by rfl, ?_⟩) (by assumption) ?_
    rotate_left
    · intro Wq hSw
      clear hSw
      go_simp
      all_goals (with_reducible rfl)
    try simp only [Act.put, List.getElem_toArray, List.getElem_cons_succ, List.getElem_cons_zero, List.setIfInBounds_toArray, List.set_cons_zero, List.set_cons_succ]
    refine wpAnyH_take (i := 4) (v := ?_) rfl (by kernel_rfl) (by kernel_rfl) (by kernel_rfl) (fun _ _ _ h => h) (Or.inl ⟨by rfl, ?_⟩) (by assumption) ?_
    rotate_left
    · intro Wq hSw
      clear hSw
      go_simp
      all_goals (with_reducible rfl)
    try simp only [Act.put, List.getElem_toArray, List.getElem_cons_succ, List.getElem_cons_zero, List.setIfInBounds_toArray, List.set_cons_zero, List.set_cons_succ]
    refine wpAnyH_take (i := 8) (v := ?_) rfl (by kernel_rfl) (by kernel_rfl) (by kernel_rfl) (fun _ _ _ h => h) (Or.inl ⟨by rfl, ?_⟩) (by assumption) ?_
    rotate_left
    · intro Wq hSw
      clear hSw
      go_simp
      all_goals (with_reducible rfl)
    try simp only [Act.put, List.getElem_toArray, List.getElem_cons_succ, List.getElem_cons_zero, List.setIfInBounds_toArray, List.set_cons_zero, List.set_cons_succ]
    refine wpAnyH_take (i := 9) (v := ?_) rfl (by kernel_rfl) (by kernel_rfl) (by kernel_rfl) (fun _ _ _ h => h) (Or.inl ⟨by rfl, ?_⟩) (by assumption) ?_
    rotate_left
    · intro Wq hSw
      clear hSw
      go_simp
      all_goals (with_reducible rfl)
    try simp only [Act.put, List.getElem_toArray, List.getElem_cons_succ, List.getElem_cons_zero, List.setIfInBounds_toArray, List.set_cons_zero, List.set_cons_succ]
    refine wpAnyH_take (i := 10) (v := ?_) rfl (by kernel_rfl) (by kernel_rfl) (by kernel_rfl) (fun _ _ _ h => h) (Or.inl ⟨by rfl, ?_⟩) (by assumption) ?_
    rotate_left
    · intro Wq hSw
      clear hSw
      go_simp
      all_goals (with_reducible rfl)
    try simp only [Act.put, List.getElem_toArray, List.getElem_cons_succ, List.getElem_cons_zero, List.setIfInBounds_toArray, List.set_cons_zero, List.set_cons_succ]
    refine wpAnyH_take (i := 11) (v := ?_) rfl (by kernel_rfl) (by kernel_rfl) (by kernel_rfl) (fun _ _ _ h => h) (Or.inl ⟨by rfl, ?_⟩) (by assumption) ?_
    rotate_left
    · intro Wq hSw
      clear hSw
      go_simp
      all_goals (with_reducible rfl)
    try simp only [Act.put, List.getElem_toArray, List.getElem_cons_succ, List.getElem_cons_zero, List.setIfInBounds_toArray, List.set_cons_zero, List.set_cons_succ]
    refine wpAnyH_take (i := 12) (v := ?_) rfl (by kernel_rfl) (by kernel_rfl) (by kernel_rfl) (fun _ _ _ h => h) (Or.inl ⟨by rfl, ?_⟩) (by assumption) ?_
    rotate_left
    · intro Wq hSw
      clear hSw
      go_simp
      all_goals (with_reducible rfl)
    try simp only [Act.put, List.getElem_toArray, List.getElem_cons_succ, List.getElem_cons_zero, List.setIfInBounds_toArray, List.set_cons_zero, List.set_cons_succ]
    refine wpAnyH_take (i := 13) (v := ?_) rfl (by kernel_rfl) (by kernel_rfl) (by kernel_rfl) (fun _ _ _ h => h) (Or.inl ⟨by rfl, ?_⟩) (by assumption) ?_
    rotate_left
    · intro Wq hSw
      clear hSw
      go_simp
      all_goals (with_reducible rfl)
    try simp only [Act.put, List.getElem_toArray, List.getElem_cons_succ, List.getElem_cons_zero, List.setIfInBounds_toArray, List.set_cons_zero, List.set_cons_succ]
    refine wpAnyH_take (i := 14) (v := ?_) rfl (by kernel_rfl) (by kernel_rfl) (by kernel_rfl) (fun _ _ _ h => h) (Or.inl ⟨by rfl, ?_⟩) (by assumption) ?_
    rotate_left
    · intro Wq hSw
      have c1 := (tok_at6 hSw.2 HKL.out HX0.out).2
      clear hSw
      go_simp
      all_goals (with_reducible rfl)
    try simp only [Act.put, List.getElem_toArray, List.getElem_cons_succ, List.getElem_cons_zero, List.setIfInBounds_toArray, List.set_cons_zero, List.set_cons_succ]
    refine wpAnyH_take (i := 15) (v := ?_) rfl (by kernel_rfl) (by kernel_rfl) (by kernel_rfl) (fun _ _ _ h => h) (Or.inl ⟨by rfl, ?_⟩) (by assumption) ?_
    rotate_left
    · intro Wq hSw
      clear hSw
      go_simp
      all_goals (with_reducible rfl)
    try simp only [Act.put, List.getElem_toArray, List.getElem_cons_succ, List.getElem_cons_zero, List.setIfInBounds_toArray, List.set_cons_zero, List.set_cons_succ]
    refine wpAnyH_take (i := 16) (v := ?_) rfl (by kernel_rfl) (by kernel_rfl) (by kernel_rfl) (fun _ _ _ h => h) (Or.inl ⟨by rfl, ?_⟩) (by assumption) ?_
    rotate_left
    · intro Wq hSw
      clear hSw
      go_simp
      all_goals (with_reducible rfl)
    try simp only [Act.put, List.getElem_toArray, List.getElem_cons_succ, List.getElem_cons_zero, List.setIfInBounds_toArray, List.set_cons_zero, List.set_cons_succ]
    refine wpAnyH_take (i := 17) (v := ?_) rfl (by kernel_rfl) (by kernel_rfl) (by kernel_rfl) (fun _ _ _ h => h) (Or.inl ⟨by rfl, ?_⟩) (by assumption) ?_
    rotate_left
    · intro Wq hSw
      clear hSw
      go_simp
      all_goals (with_reducible rfl)
    try simp only [Act.put, List.getElem_toArray, List.getElem_cons_succ, List.getElem_cons_zero, List.setIfInBounds_toArray, List.set_cons_zero, List.set_cons_succ]
    refine r2 (i := 5) (j := 25) rfl (fun K hK => ?_) rfl (fun K hK => ?_)
    · go_simp
      (with_reducible refine (CS.out _).mono ?_); rintro e wl ⟨vn, rfl, hv, hb1⟩
      have HNU := Lib.hid hv
      obtain ⟨xn, an, nn, cn, fn, rfl, -⟩ := hv
      refine hK.out _ _ ⟨bl_trans hHeld.1 hb1, tok_below6 hHeld.2 hb1⟩ (fun hHeld2 => ?_)
      clear hK K hHeld hb1
      have hHeld := hHeld2
      clear hHeld2
      try simp only [Act.put, List.getElem_toArray, List.getElem_cons_succ, List.getElem_cons_zero, List.setIfInBounds_toArray, List.set_cons_zero, List.set_cons_succ]
      refine r2 (i := 6) (j := 25) rfl (fun K hK => ?_) rfl (fun K hK => ?_)
      · go_simp
        (with_reducible refine (CT.out _ _ HNU.out).mono ?_); rintro e wm ⟨rfl, hb1⟩
        refine hK.out _ _ ⟨bl_trans hHeld.1 hb1, tok_below6 hHeld.2 hb1⟩ (fun hHeld2 => ?_)
        replace HNU := Lib.hid (HNU.out.below hb1)
        clear hK K hHeld hb1 HNU
        have hHeld := hHeld2
        clear hHeld2
        try simp only [Act.put, List.getElem_toArray, List.getElem_cons_succ, List.getElem_cons_zero, List.setIfInBounds_toArray, List.set_cons_zero, List.set_cons_succ]
        refine wpAnyH_take (i := 7) (v := ?_) rfl (by kernel_rfl) (by kernel_rfl) (by kernel_rfl) (fun _ _ _ h => h) (Or.inl ⟨by rfl, ?_⟩) (by assumption) ?_
        rotate_left
        · intro Wq hSw
          clear hSw
          go_simp
          all_goals (with_reducible rfl)
        try simp only [Act.put, List.getElem_toArray, List.getElem_cons_succ, List.getElem_cons_zero, List.setIfInBounds_toArray, List.set_cons_zero, List.set_cons_succ]
        refine wpAnyH_take (i := 18) (v := ?_) rfl (by kernel_rfl) (by kernel_rfl) (by kernel_rfl) (fun _ _ _ h => h) (Or.inl ⟨by rfl, ?_⟩) (by assumption) ?_
        rotate_left
        · intro Wq hSw
          clear hSw
          go_simp
          all_goals (with_reducible rfl)
        try simp only [Act.put, List.getElem_toArray, List.getElem_cons_succ, List.getElem_cons_zero, List.setIfInBounds_toArray, List.set_cons_zero, List.set_cons_succ]
        refine r2 (i := 19) (j := 25) rfl (fun K hK => ?_) rfl (fun K hK => ?_)
        · obtain ⟨wv, cpv, hcw, hcv, hbv, hBv⟩ := bytes_cap5 (v3) wm
          have HBY := Lib.hid hBv
          go_simp
          refine hK.out _ _ ⟨bl_trans hHeld.1 hbv, tok_below6 hHeld.2 hbv⟩ (fun hHeld2 => ?_)
          clear hK K hHeld hcv hbv hBv hcw
          have hHeld := hHeld2
          clear hHeld2
          try simp only [Act.put, List.getElem_toArray, List.getElem_cons_succ, List.getElem_cons_zero, List.setIfInBounds_toArray, List.set_cons_zero, List.set_cons_succ]
          refine r2 (i := 20) (j := 25) rfl (fun K hK => ?_) rfl (fun K hK => ?_)
          · go_simp
            (with_reducible refine (parse_bad5 (HV3).out _ _ _ HBY.out).mono ?_); rintro e wp ⟨ap2, cp2, al2, cl2, ai2, ci2, rfl, -, hb1⟩
            refine hK.out _ _ ⟨bl_trans hHeld.1 hb1, tok_below6 hHeld.2 hb1⟩ (fun hHeld2 => ?_)
            replace HBY := Lib.hid (HBY.out.below hb1)
            clear hK K hHeld hb1 HBY
            have hHeld := hHeld2
            clear hHeld2
            try simp only [Act.put, List.getElem_toArray, List.getElem_cons_succ, List.getElem_cons_zero, List.setIfInBounds_toArray, List.set_cons_zero, List.set_cons_succ]
            refine wpAnyH_take (i := 21) (v := ?_) rfl (by kernel_rfl) (by kernel_rfl) (by kernel_rfl) (fun _ _ _ h => h) (Or.inl ⟨by rfl, ?_⟩) (by assumption) ?_
            rotate_left
            · intro Wq hSw
              clear hSw
              go_simp
              all_goals (with_reducible rfl)
            try simp only [Act.put, List.getElem_toArray, List.getElem_cons_succ, List.getElem_cons_zero, List.setIfInBounds_toArray, List.set_cons_zero, List.set_cons_succ]
            refine wpAnyH_take (i := 22) (v := ?_) rfl (by kernel_rfl) (by kernel_rfl) (by kernel_rfl) (fun _ _ _ h => h) (Or.inl ⟨by rfl, ?_⟩) (by assumption) ?_
            rotate_left
            · intro Wq hSw
              clear hSw
              go_simp
              all_goals (with_reducible rfl)
            try simp only [Act.put, List.getElem_toArray, List.getElem_cons_succ, List.getElem_cons_zero, List.setIfInBounds_toArray, List.set_cons_zero, List.set_cons_succ]
            refine wpAnyH_take (i := 23) (v := ?_) rfl (by kernel_rfl) (by kernel_rfl) (by kernel_rfl) (fun _ _ _ h => h) (Or.inl ⟨by rfl, ?_⟩) (by assumption) ?_
            rotate_left
            · intro Wq hSw
              clear hSw
              go_simp
              all_goals (with_reducible rfl)
            try simp only [Act.put, List.getElem_toArray, List.getElem_cons_succ, List.getElem_cons_zero, List.setIfInBounds_toArray, List.set_cons_zero, List.set_cons_succ]
            refine wpAnyH_take (i := 24) (v := ?_) rfl (by kernel_rfl) (by kernel_rfl) (by kernel_rfl) (fun _ _ _ h => h) (Or.inl ⟨by rfl, ?_⟩) (by assumption) ?_
            rotate_left
            · intro Wq hSw
              clear hSw
              go_simp
              all_goals (with_reducible rfl)
            try simp only [Act.put, List.getElem_toArray, List.getElem_cons_succ, List.getElem_cons_zero, List.setIfInBounds_toArray, List.set_cons_zero, List.set_cons_succ]
            refine r1 (i := 25) rfl (fun K hK => ?_)
            go_simp
            have HX := Lib.hid (var3o_new wp (.slice none 0 0) (.slice none 0 0) (.slice none 0 0) 25 _ rfl)
            have HGX := Lib.hid (And.intro hHeld.1.size (cell_lt (tok_at6 hHeld.2 HKL.out HX0.out).1))
            refine hK.out _ _ ⟨bl_alloc hHeld.1 _, tok_below6 hHeld.2 (bl_one wp (.cells #[.slice none 0 0, .slice none 0 0, .slice none 0 0] 25))⟩ (fun hHeld2 => ?_)
            clear hK K hHeld
            generalize wp.heap.size = gx at *
            generalize wp.alloc _ = wa at *
            have hHeld := hHeld2
            clear hHeld2
            try simp only [Act.put, List.getElem_toArray, List.getElem_cons_succ, List.getElem_cons_zero, List.setIfInBounds_toArray, List.set_cons_zero, List.set_cons_succ]
            refine r1 (i := 26) rfl (fun K hK => ?_)
            obtain ⟨d0, d1, d2⟩ := HX.out.three6
            obtain ⟨f0, f1, f2⟩ := HX.out.free36
            go_simp
            have hgx := HGX.out
            refine hK.out _ _ ⟨bl_set (bl_set (bl_set hHeld.1 (by dsimp only; exact hgx.1) _) (by dsimp only; exact hgx.1) _) (by dsimp only; exact hgx.1) _, tok_far6 (tok_far6 (tok_far6 hHeld.2 (Nat.ne_of_gt hgx.2) _) (Nat.ne_of_gt hgx.2) _) (Nat.ne_of_gt hgx.2) _⟩ (fun hHeld2 => ?_)
            clear hK K hHeld d0 d1 d2 f0 f1 f2 HX HGX hgx
            have hHeld := hHeld2
            clear hHeld2
            try simp only [Act.put, List.getElem_toArray, List.getElem_cons_succ, List.getElem_cons_zero, List.setIfInBounds_toArray, List.set_cons_zero, List.set_cons_succ]
            refine wpAnyH_take (i := 27) (v := ?_) rfl (by kernel_rfl) (by kernel_rfl) (by kernel_rfl) (fun _ _ _ h => h) (Or.inl ⟨by rfl, ?_⟩) (by assumption) ?_
            rotate_left
            · intro Wq hSw
              clear hSw
              go_simp
              all_goals (with_reducible rfl)
            try simp only [Act.put, List.getElem_toArray, List.getElem_cons_succ, List.getElem_cons_zero, List.setIfInBounds_toArray, List.set_cons_zero, List.set_cons_succ]
            refine wpAnyH_take (i := 28) (v := ?_) rfl (by kernel_rfl) (by kernel_rfl) (by kernel_rfl) (fun _ _ _ h => h) (Or.inl ⟨by rfl, ?_⟩) (by assumption) ?_
            rotate_left
            · intro Wq hSw
              clear hSw
              go_simp
              all_goals (with_reducible rfl)
            try simp only [Act.put, List.getElem_toArray, List.getElem_cons_succ, List.getElem_cons_zero, List.setIfInBounds_toArray, List.set_cons_zero, List.set_cons_succ]
            refine wpAnyH_done (by kernel_rfl) ?_ _
            go_wp2_with fail
            go_meet
            case rel => exact ⟨rfl, rfl, hHeld⟩
          · go_simp
            have HX := Lib.hid (var3o_new wv (.slice none 0 0) (.slice none 0 0) (.slice none 0 0) 25 _ rfl)
            have HGX := Lib.hid (And.intro hHeld.1.size (cell_lt (tok_at6 hHeld.2 HKL.out HX0.out).1))
            refine hK.out _ _ ⟨bl_alloc hHeld.1 _, tok_below6 hHeld.2 (bl_one wv (.cells #[.slice none 0 0, .slice none 0 0, .slice none 0 0] 25))⟩ (fun hHeld2 => ?_)
            replace HBY := Lib.hid (HBY.out.below (bl_one wv (.cells #[.slice none 0 0, .slice none 0 0, .slice none 0 0] 25)))
            clear hK K hHeld
            generalize wv.heap.size = gx at *
            generalize wv.alloc _ = wa at *
            have hHeld := hHeld2
            clear hHeld2
            try simp only [Act.put, List.getElem_toArray, List.getElem_cons_succ, List.getElem_cons_zero, List.setIfInBounds_toArray, List.set_cons_zero, List.set_cons_succ]
            refine r1 (i := 20) rfl (fun K hK => ?_)
            go_simp
            (with_reducible refine (parse_bad5 (HV3).out _ _ _ HBY.out).mono ?_); rintro e wp ⟨ap2, cp2, al2, cl2, ai2, ci2, rfl, -, hb1⟩
            refine hK.out _ _ ⟨bl_trans hHeld.1 hb1, tok_below6 hHeld.2 hb1⟩ (fun hHeld2 => ?_)
            replace HBY := Lib.hid (HBY.out.below hb1)
            replace HX := Lib.hid (HX.out.below hb1)
            clear hK K hHeld hb1 HBY
            have hHeld := hHeld2
            clear hHeld2
            try simp only [Act.put, List.getElem_toArray, List.getElem_cons_succ, List.getElem_cons_zero, List.setIfInBounds_toArray, List.set_cons_zero, List.set_cons_succ]
            refine wpAnyH_take (i := 21) (v := ?_) rfl (by kernel_rfl) (by kernel_rfl) (by kernel_rfl) (fun _ _ _ h => h) (Or.inl ⟨by rfl, ?_⟩) (by assumption) ?_
            rotate_left
            · intro Wq hSw
              clear hSw
              go_simp
              all_goals (with_reducible rfl)
            try simp only [Act.put, List.getElem_toArray, List.getElem_cons_succ, List.getElem_cons_zero, List.setIfInBounds_toArray, List.set_cons_zero, List.set_cons_succ]
            refine wpAnyH_take (i := 22) (v := ?_) rfl (by kernel_rfl) (by kernel_rfl) (by kernel_rfl) (fun _ _ _ h => h) (Or.inl ⟨by rfl, ?_⟩) (by assumption) ?_
            rotate_left
            · intro Wq hSw
              clear hSw
              go_simp
              all_goals (with_reducible rfl)
            try simp only [Act.put, List.getElem_toArray, List.getElem_cons_succ, List.getElem_cons_zero, List.setIfInBounds_toArray, List.set_cons_zero, List.set_cons_succ]
            refine wpAnyH_take (i := 23) (v := ?_) rfl (by kernel_rfl) (by kernel_rfl) (by kernel_rfl) (fun _ _ _ h => h) (Or.inl ⟨by rfl, ?_⟩) (by assumption) ?_
            rotate_left
            · intro Wq hSw
              clear hSw
              go_simp
              all_goals (with_reducible rfl)
            try simp only [Act.put, List.getElem_toArray, List.getElem_cons_succ, List.getElem_cons_zero, List.setIfInBounds_toArray, List.set_cons_zero, List.set_cons_succ]
            refine wpAnyH_take (i := 24) (v := ?_) rfl (by kernel_rfl) (by kernel_rfl) (by kernel_rfl) (fun _ _ _ h => h) (Or.inl ⟨by rfl, ?_⟩) (by assumption) ?_
            rotate_left
            · intro Wq hSw
              clear hSw
              go_simp
              all_goals (with_reducible rfl)
            try simp only [Act.put, List.getElem_toArray, List.getElem_cons_succ, List.getElem_cons_zero, List.setIfInBounds_toArray, List.set_cons_zero, List.set_cons_succ]
            refine r1 (i := 26) rfl (fun K hK => ?_)
            obtain ⟨d0, d1, d2⟩ := HX.out.three6
            obtain ⟨f0, f1, f2⟩ := HX.out.free36
            go_simp
            have hgx := HGX.out
            refine hK.out _ _ ⟨bl_set (bl_set (bl_set hHeld.1 (by dsimp only; exact hgx.1) _) (by dsimp only; exact hgx.1) _) (by dsimp only; exact hgx.1) _, tok_far6 (tok_far6 (tok_far6 hHeld.2 (Nat.ne_of_gt hgx.2) _) (Nat.ne_of_gt hgx.2) _) (Nat.ne_of_gt hgx.2) _⟩ (fun hHeld2 => ?_)
            clear hK K hHeld d0 d1 d2 f0 f1 f2 HX HGX hgx
            have hHeld := hHeld2
            clear hHeld2
            try simp only [Act.put, List.getElem_toArray, List.getElem_cons_succ, List.getElem_cons_zero, List.setIfInBounds_toArray, List.set_cons_zero, List.set_cons_succ]
            refine wpAnyH_take (i := 27) (v := ?_) rfl (by kernel_rfl) (by kernel_rfl) (by kernel_rfl) (fun _ _ _ h => h) (Or.inl ⟨by rfl, ?_⟩) (by assumption) ?_
            rotate_left
            · intro Wq hSw
              clear hSw
              go_simp
              all_goals (with_reducible rfl)
            try simp only [Act.put, List.getElem_toArray, List.getElem_cons_succ, List.getElem_cons_zero, List.setIfInBounds_toArray, List.set_cons_zero, List.set_cons_succ]
            refine wpAnyH_take (i := 28) (v := ?_) rfl (by kernel_rfl) (by kernel_rfl) (by kernel_rfl) (fun _ _ _ h => h) (Or.inl ⟨by rfl, ?_⟩) (by assumption) ?_
            rotate_left
            · intro Wq hSw
              clear hSw
              go_simp
              all_goals (with_reducible rfl)
            try simp only [Act.put, List.getElem_toArray, List.getElem_cons_succ, List.getElem_cons_zero, List.setIfInBounds_toArray, List.set_cons_zero, List.set_cons_succ]
            refine wpAnyH_done (by kernel_rfl) ?_ _
            go_wp2_with fail
            go_meet
            case rel => exact ⟨rfl, rfl, hHeld⟩
        · go_simp
          have HX := Lib.hid (var3o_new wm (.slice none 0 0) (.slice none 0 0) (.slice none 0 0) 25 _ rfl)
          have HGX := Lib.hid (And.intro hHeld.1.size (cell_lt (tok_at6 hHeld.2 HKL.out HX0.out).1))
          refine hK.out _ _ ⟨bl_alloc hHeld.1 _, tok_below6 hHeld.2 (bl_one wm (.cells #[.slice none 0 0, .slice none 0 0, .slice none 0 0] 25))⟩ (fun hHeld2 => ?_)
          clear hK K hHeld
          generalize wm.heap.size = gx at *
          generalize wm.alloc _ = wa at *
          have hHeld := hHeld2
          clear hHeld2
          try simp only [Act.put, List.getElem_toArray, List.getElem_cons_succ, List.getElem_cons_zero, List.setIfInBounds_toArray, List.set_cons_zero, List.set_cons_succ]
          refine r1 (i := 19) rfl (fun K hK => ?_)
          obtain ⟨wv, cpv, hcw, hcv, hbv, hBv⟩ := bytes_cap5 (v3) wa
          have HBY := Lib.hid hBv
          go_simp
          refine hK.out _ _ ⟨bl_trans hHeld.1 hbv, tok_below6 hHeld.2 hbv⟩ (fun hHeld2 => ?_)
          replace HX := Lib.hid (HX.out.below hbv)
          clear hK K hHeld hcv hbv hBv hcw
          have hHeld := hHeld2
          clear hHeld2
          try simp only [Act.put, List.getElem_toArray, List.getElem_cons_succ, List.getElem_cons_zero, List.setIfInBounds_toArray, List.set_cons_zero, List.set_cons_succ]
          refine r1 (i := 20) rfl (fun K hK => ?_)
          go_simp
          (with_reducible refine (parse_bad5 (HV3).out _ _ _ HBY.out).mono ?_); rintro e wp ⟨ap2, cp2, al2, cl2, ai2, ci2, rfl, -, hb1⟩
          refine hK.out _ _ ⟨bl_trans hHeld.1 hb1, tok_below6 hHeld.2 hb1⟩ (fun hHeld2 => ?_)
          replace HX := Lib.hid (HX.out.below hb1)
          replace HBY := Lib.hid (HBY.out.below hb1)
          clear hK K hHeld hb1 HBY
          have hHeld := hHeld2
          clear hHeld2
          try simp only [Act.put, List.getElem_toArray, List.getElem_cons_succ, List.getElem_cons_zero, List.setIfInBounds_toArray, List.set_cons_zero, List.set_cons_succ]
          refine wpAnyH_take (i := 21) (v := ?_) rfl (by kernel_rfl) (by kernel_rfl) (by kernel_rfl) (fun _ _ _ h => h) (Or.inl ⟨by rfl, ?_⟩) (by assumption) ?_
          rotate_left
          · intro Wq hSw
            clear hSw
            go_simp
            all_goals (with_reducible rfl)
          try simp only [Act.put, List.getElem_toArray, List.getElem_cons_succ, List.getElem_cons_zero, List.setIfInBounds_toArray, List.set_cons_zero, List.set_cons_succ]
          refine wpAnyH_take (i := 22) (v := ?_) rfl (by kernel_rfl) (by kernel_rfl) (by kernel_rfl) (fun _ _ _ h => h) (Or.inl ⟨by rfl, ?_⟩) (by assumption) ?_
          rotate_left
          · intro Wq hSw
            clear hSw
            go_simp
            all_goals (with_reducible rfl)
          try simp only [Act.put, List.getElem_toArray, List.getElem_cons_succ, List.getElem_cons_zero, List.setIfInBounds_toArray, List.set_cons_zero, List.set_cons_succ]
          refine wpAnyH_take (i := 23) (v := ?_) rfl (by kernel_rfl) (by kernel_rfl) (by kernel_rfl) (fun _ _ _ h => h) (Or.inl ⟨by rfl, ?_⟩) (by assumption) ?_
          rotate_left
          · intro Wq hSw
            clear hSw
            go_simp
            all_goals (with_reducible rfl)
          try simp only [Act.put, List.getElem_toArray, List.getElem_cons_succ, List.getElem_cons_zero, List.setIfInBounds_toArray, List.set_cons_zero, List.set_cons_succ]
          refine wpAnyH_take (i := 24) (v := ?_) rfl (by kernel_rfl) (by kernel_rfl) (by kernel_rfl) (fun _ _ _ h => h) (Or.inl ⟨by rfl, ?_⟩) (by assumption) ?_
          rotate_left
          · intro Wq hSw
            clear hSw
            go_simp
            all_goals (with_reducible rfl)
          try simp only [Act.put, List.getElem_toArray, List.getElem_cons_succ, List.getElem_cons_zero, List.setIfInBounds_toArray, List.set_cons_zero, List.set_cons_succ]
          refine r1 (i := 26) rfl (fun K hK => ?_)
          obtain ⟨d0, d1, d2⟩ := HX.out.three6
          obtain ⟨f0, f1, f2⟩ := HX.out.free36
          go_simp
          have hgx := HGX.out
          refine hK.out _ _ ⟨bl_set (bl_set (bl_set hHeld.1 (by dsimp only; exact hgx.1) _) (by dsimp only; exact hgx.1) _) (by dsimp only; exact hgx.1) _, tok_far6 (tok_far6 (tok_far6 hHeld.2 (Nat.ne_of_gt hgx.2) _) (Nat.ne_of_gt hgx.2) _) (Nat.ne_of_gt hgx.2) _⟩ (fun hHeld2 => ?_)
          clear hK K hHeld d0 d1 d2 f0 f1 f2 HX HGX hgx
          have hHeld := hHeld2
          clear hHeld2
          try simp only [Act.put, List.getElem_toArray, List.getElem_cons_succ, List.getElem_cons_zero, List.setIfInBounds_toArray, List.set_cons_zero, List.set_cons_succ]
          refine wpAnyH_take (i := 27) (v := ?_) rfl (by kernel_rfl) (by kernel_rfl) (by kernel_rfl) (fun _ _ _ h => h) (Or.inl ⟨by rfl, ?_⟩) (by assumption) ?_
          rotate_left
          · intro Wq hSw
            clear hSw
            go_simp
            all_goals (with_reducible rfl)
          try simp only [Act.put, List.getElem_toArray, List.getElem_cons_succ, List.getElem_cons_zero, List.setIfInBounds_toArray, List.set_cons_zero, List.set_cons_succ]
          refine wpAnyH_take (i := 28) (v := ?_) rfl (by kernel_rfl) (by kernel_rfl) (by kernel_rfl) (fun _ _ _ h => h) (Or.inl ⟨by rfl, ?_⟩) (by assumption) ?_
          rotate_left
          · intro Wq hSw
            clear hSw
            go_simp
            all_goals (with_reducible rfl)
          try simp only [Act.put, List.getElem_toArray, List.getElem_cons_succ, List.getElem_cons_zero, List.setIfInBounds_toArray, List.set_cons_zero, List.set_cons_succ]
          refine wpAnyH_done (by kernel_rfl) ?_ _
          go_wp2_with fail
          go_meet
          case rel => exact ⟨rfl, rfl, hHeld⟩
      · go_simp
        have HX := Lib.hid (var3o_new wl (.slice none 0 0) (.slice none 0 0) (.slice none 0 0) 25 _ rfl)
        have HGX := Lib.hid (And.intro hHeld.1.size (cell_lt (tok_at6 hHeld.2 HKL.out HX0.out).1))
        refine hK.out _ _ ⟨bl_alloc hHeld.1 _, tok_below6 hHeld.2 (bl_one wl (.cells #[.slice none 0 0, .slice none 0 0, .slice none 0 0] 25))⟩ (fun hHeld2 => ?_)
        replace HNU := Lib.hid (HNU.out.below (bl_one wl (.cells #[.slice none 0 0, .slice none 0 0, .slice none 0 0] 25)))
        clear hK K hHeld
        generalize wl.heap.size = gx at *
        generalize wl.alloc _ = wa at *
        have hHeld := hHeld2
        clear hHeld2
        try simp only [Act.put, List.getElem_toArray, List.getElem_cons_succ, List.getElem_cons_zero, List.setIfInBounds_toArray, List.set_cons_zero, List.set_cons_succ]
        refine r1 (i := 6) rfl (fun K hK => ?_)
        go_simp
        (with_reducible refine (CT.out _ _ HNU.out).mono ?_); rintro e wm ⟨rfl, hb1⟩
        refine hK.out _ _ ⟨bl_trans hHeld.1 hb1, tok_below6 hHeld.2 hb1⟩ (fun hHeld2 => ?_)
        replace HNU := Lib.hid (HNU.out.below hb1)
        replace HX := Lib.hid (HX.out.below hb1)
        clear hK K hHeld hb1 HNU
        have hHeld := hHeld2
        clear hHeld2
        try simp only [Act.put, List.getElem_toArray, List.getElem_cons_succ, List.getElem_cons_zero, List.setIfInBounds_toArray, List.set_cons_zero, List.set_cons_succ]
        refine wpAnyH_take (i := 7) (v := ?_) rfl (by kernel_rfl) (by kernel_rfl) (by kernel_rfl) (fun _ _ _ h => h) (Or.inl ⟨by rfl, ?_⟩) (by assumption) ?_
        rotate_left
        · intro Wq hSw
          clear hSw
          go_simp
          all_goals (with_reducible rfl)
        try simp only [Act.put, List.getElem_toArray, List.getElem_cons_succ, List.getElem_cons_zero, List.setIfInBounds_toArray, List.set_cons_zero, List.set_cons_succ]
        refine wpAnyH_take (i := 18) (v := ?_) rfl (by kernel_rfl) (by kernel_rfl) (by kernel_rfl) (fun _ _ _ h => h) (Or.inl ⟨by rfl, ?_⟩) (by assumption) ?_
        rotate_left
        · intro Wq hSw
          clear hSw
          go_simp
          all_goals (with_reducible rfl)
        try simp only [Act.put, List.getElem_toArray, List.getElem_cons_succ, List.getElem_cons_zero, List.setIfInBounds_toArray, List.set_cons_zero, List.set_cons_succ]
        refine r1 (i := 19) rfl (fun K hK => ?_)
        obtain ⟨wv, cpv, hcw, hcv, hbv, hBv⟩ := bytes_cap5 (v3) wm
        have HBY := Lib.hid hBv
        go_simp
        refine hK.out _ _ ⟨bl_trans hHeld.1 hbv, tok_below6 hHeld.2 hbv⟩ (fun hHeld2 => ?_)
        replace HX := Lib.hid (HX.out.below hbv)
        clear hK K hHeld hcv hbv hBv hcw
        have hHeld := hHeld2
        clear hHeld2
        try simp only [Act.put, List.getElem_toArray, List.getElem_cons_succ, List.getElem_cons_zero, List.setIfInBounds_toArray, List.set_cons_zero, List.set_cons_succ]
        refine r1 (i := 20) rfl (fun K hK => ?_)
        go_simp
        (with_reducible refine (parse_bad5 (HV3).out _ _ _ HBY.out).mono ?_); rintro e wp ⟨ap2, cp2, al2, cl2, ai2, ci2, rfl, -, hb1⟩
        refine hK.out _ _ ⟨bl_trans hHeld.1 hb1, tok_below6 hHeld.2 hb1⟩ (fun hHeld2 => ?_)
        replace HX := Lib.hid (HX.out.below hb1)
        replace HBY := Lib.hid (HBY.out.below hb1)
        clear hK K hHeld hb1 HBY
        have hHeld := hHeld2
        clear hHeld2
        try simp only [Act.put, List.getElem_toArray, List.getElem_cons_succ, List.getElem_cons_zero, List.setIfInBounds_toArray, List.set_cons_zero, List.set_cons_succ]
        refine wpAnyH_take (i := 21) (v := ?_) rfl (by kernel_rfl) (by kernel_rfl) (by kernel_rfl) (fun _ _ _ h => h) (Or.inl ⟨by rfl, ?_⟩) (by assumption) ?_
        rotate_left
        · intro Wq hSw
          clear hSw
          go_simp
          all_goals (with_reducible rfl)
        try simp only [Act.put, List.getElem_toArray, List.getElem_cons_succ, List.getElem_cons_zero, List.setIfInBounds_toArray, List.set_cons_zero, List.set_cons_succ]
        refine wpAnyH_take (i := 22) (v := ?_) rfl (by kernel_rfl) (by kernel_rfl) (by kernel_rfl) (fun _ _ _ h => h) (Or.inl ⟨by rfl, ?_⟩) (by assumption) ?_
        rotate_left
        · intro Wq hSw
          clear hSw
          go_simp
          all_goals (with_reducible rfl)
        try simp only [Act.put, List.getElem_toArray, List.getElem_cons_succ, List.getElem_cons_zero, List.setIfInBounds_toArray, List.set_cons_zero, List.set_cons_succ]
        refine wpAnyH_take (i := 23) (v := ?_) rfl (by kernel_rfl) (by kernel_rfl) (by kernel_rfl) (fun _ _ _ h => h) (Or.inl ⟨by rfl, ?_⟩) (by assumption) ?_
        rotate_left
        · intro Wq hSw
          clear hSw
          go_simp
          all_goals (with_reducible rfl)
        try simp only [Act.put, List.getElem_toArray, List.getElem_cons_succ, List.getElem_cons_zero, List.setIfInBounds_toArray, List.set_cons_zero, List.set_cons_succ]
        refine wpAnyH_take (i := 24) (v := ?_) rfl (by kernel_rfl) (by kernel_rfl) (by kernel_rfl) (fun _ _ _ h => h) (Or.inl ⟨by rfl, ?_⟩) (by assumption) ?_
        rotate_left
        · intro Wq hSw
          clear hSw
          go_simp
          all_goals (with_reducible rfl)
        try simp only [Act.put, List.getElem_toArray, List.getElem_cons_succ, List.getElem_cons_zero, List.setIfInBounds_toArray, List.set_cons_zero, List.set_cons_succ]
        refine r1 (i := 26) rfl (fun K hK => ?_)
        obtain ⟨d0, d1, d2⟩ := HX.out.three6
        obtain ⟨f0, f1, f2⟩ := HX.out.free36
        go_simp
        have hgx := HGX.out
        refine hK.out _ _ ⟨bl_set (bl_set (bl_set hHeld.1 (by dsimp only; exact hgx.1) _) (by dsimp only; exact hgx.1) _) (by dsimp only; exact hgx.1) _, tok_far6 (tok_far6 (tok_far6 hHeld.2 (Nat.ne_of_gt hgx.2) _) (Nat.ne_of_gt hgx.2) _) (Nat.ne_of_gt hgx.2) _⟩ (fun hHeld2 => ?_)
        clear hK K hHeld d0 d1 d2 f0 f1 f2 HX HGX hgx
        have hHeld := hHeld2
        clear hHeld2
        try simp only [Act.put, List.getElem_toArray, List.getElem_cons_succ, List.getElem_cons_zero, List.setIfInBounds_toArray, List.set_cons_zero, List.set_cons_succ]
        refine wpAnyH_take (i := 27) (v := ?_) rfl (by kernel_rfl) (by kernel_rfl) (by kernel_rfl) (fun _ _ _ h => h) (Or.inl ⟨by rfl, ?_⟩) (by assumption) ?_
        rotate_left
        · intro Wq hSw
          clear hSw
          go_simp
          all_goals (with_reducible rfl)
        try simp only [Act.put, List.getElem_toArray, List.getElem_cons_succ, List.getElem_cons_zero, List.setIfInBounds_toArray, List.set_cons_zero, List.set_cons_succ]
        refine wpAnyH_take (i := 28) (v := ?_) rfl (by kernel_rfl) (by kernel_rfl) (by kernel_rfl) (fun _ _ _ h => h) (Or.inl ⟨by rfl, ?_⟩) (by assumption) ?_
        rotate_left
        · intro Wq hSw
          clear hSw
          go_simp
          all_goals (with_reducible rfl)
        try simp only [Act.put, List.getElem_toArray, List.getElem_cons_succ, List.getElem_cons_zero, List.setIfInBounds_toArray, List.set_cons_zero, List.set_cons_succ]
        refine wpAnyH_done (by kernel_rfl) ?_ _
        go_wp2_with fail
        go_meet
        case rel => exact ⟨rfl, rfl, hHeld⟩
    · go_simp
      have HX := Lib.hid (var3o_new W1 (.slice none 0 0) (.slice none 0 0) (.slice none 0 0) 25 _ rfl)
      have HGX := Lib.hid (And.intro hHeld.1.size (cell_lt (tok_at6 hHeld.2 HKL.out HX0.out).1))
      refine hK.out _ _ ⟨bl_alloc hHeld.1 _, tok_below6 hHeld.2 (bl_one W1 (.cells #[.slice none 0 0, .slice none 0 0, .slice none 0 0] 25))⟩ (fun hHeld2 => ?_)
      clear hK K hHeld
      generalize W1.heap.size = gx at *
      generalize W1.alloc _ = wa at *
      have hHeld := hHeld2
      clear hHeld2
      try simp only [Act.put, List.getElem_toArray, List.getElem_cons_succ, List.getElem_cons_zero, List.setIfInBounds_toArray, List.set_cons_zero, List.set_cons_succ]
      refine r1 (i := 5) rfl (fun K hK => ?_)
      go_simp
      (with_reducible refine (CS.out _).mono ?_); rintro e wl ⟨vn, rfl, hv, hb1⟩
      have HNU := Lib.hid hv
      obtain ⟨xn, an, nn, cn, fn, rfl, -⟩ := hv
      refine hK.out _ _ ⟨bl_trans hHeld.1 hb1, tok_below6 hHeld.2 hb1⟩ (fun hHeld2 => ?_)
      replace HX := Lib.hid (HX.out.below hb1)
      clear hK K hHeld hb1
      have hHeld := hHeld2
      clear hHeld2
      try simp only [Act.put, List.getElem_toArray, List.getElem_cons_succ, List.getElem_cons_zero, List.setIfInBounds_toArray, List.set_cons_zero, List.set_cons_succ]
      refine r1 (i := 6) rfl (fun K hK => ?_)
      go_simp
      (with_reducible refine (CT.out _ _ HNU.out).mono ?_); rintro e wm ⟨rfl, hb1⟩
      refine hK.out _ _ ⟨bl_trans hHeld.1 hb1, tok_below6 hHeld.2 hb1⟩ (fun hHeld2 => ?_)
      replace HX := Lib.hid (HX.out.below hb1)
      replace HNU := Lib.hid (HNU.out.below hb1)
      clear hK K hHeld hb1 HNU
      have hHeld := hHeld2
      clear hHeld2
      try simp only [Act.put, List.getElem_toArray, List.getElem_cons_succ, List.getElem_cons_zero, List.setIfInBounds_toArray, List.set_cons_zero, List.set_cons_succ]
      refine wpAnyH_take (i := 7) (v := ?_) rfl (by kernel_rfl) (by kernel_rfl) (by kernel_rfl) (fun _ _ _ h => h) (Or.inl ⟨by rfl, ?_⟩) (by assumption) ?_
      rotate_left
      · intro Wq hSw
        clear hSw
        go_simp
        all_goals (with_reducible rfl)
      try simp only [Act.put, List.getElem_toArray, List.getElem_cons_succ, List.getElem_cons_zero, List.setIfInBounds_toArray, List.set_cons_zero, List.set_cons_succ]
      refine wpAnyH_take (i := 18) (v := ?_) rfl (by kernel_rfl) (by kernel_rfl) (by kernel_rfl) (fun _ _ _ h => h) (Or.inl ⟨by rfl, ?_⟩) (by assumption) ?_
      rotate_left
      · intro Wq hSw
        clear hSw
        go_simp
        all_goals (with_reducible rfl)
      try simp only [Act.put, List.getElem_toArray, List.getElem_cons_succ, List.getElem_cons_zero, List.setIfInBounds_toArray, List.set_cons_zero, List.set_cons_succ]
      refine r1 (i := 19) rfl (fun K hK => ?_)
      obtain ⟨wv, cpv, hcw, hcv, hbv, hBv⟩ := bytes_cap5 (v3) wm
      have HBY := Lib.hid hBv
      go_simp
      refine hK.out _ _ ⟨bl_trans hHeld.1 hbv, tok_below6 hHeld.2 hbv⟩ (fun hHeld2 => ?_)
      replace HX := Lib.hid (HX.out.below hbv)
      clear hK K hHeld hcv hbv hBv hcw
      have hHeld := hHeld2
      clear hHeld2
      try simp only [Act.put, List.getElem_toArray, List.getElem_cons_succ, List.getElem_cons_zero, List.setIfInBounds_toArray, List.set_cons_zero, List.set_cons_succ]
      refine r1 (i := 20) rfl (fun K hK => ?_)
      go_simp
      (with_reducible refine (parse_bad5 (HV3).out _ _ _ HBY.out).mono ?_); rintro e wp ⟨ap2, cp2, al2, cl2, ai2, ci2, rfl, -, hb1⟩
      refine hK.out _ _ ⟨bl_trans hHeld.1 hb1, tok_below6 hHeld.2 hb1⟩ (fun hHeld2 => ?_)
      replace HX := Lib.hid (HX.out.below hb1)
      replace HBY := Lib.hid (HBY.out.below hb1)
      clear hK K hHeld hb1 HBY
      have hHeld := hHeld2
      clear hHeld2
      try simp only [Act.put, List.getElem_toArray, List.getElem_cons_succ, List.getElem_cons_zero, List.setIfInBounds_toArray, List.set_cons_zero, List.set_cons_succ]
      refine wpAnyH_take (i := 21) (v := ?_) rfl (by kernel_rfl) (by kernel_rfl) (by kernel_rfl) (fun _ _ _ h => h) (Or.inl ⟨by rfl, ?_⟩) (by assumption) ?_
      rotate_left
      · intro Wq hSw
        clear hSw
        go_simp
        all_goals (with_reducible rfl)
      try simp only [Act.put, List.getElem_toArray, List.getElem_cons_succ, List.getElem_cons_zero, List.setIfInBounds_toArray, List.set_cons_zero, List.set_cons_succ]
      refine wpAnyH_take (i := 22) (v := ?_) rfl (by kernel_rfl) (by kernel_rfl) (by kernel_rfl) (fun _ _ _ h => h) (Or.inl ⟨by rfl, ?_⟩) (by assumption) ?_
      rotate_left
      · intro Wq hSw
        clear hSw
        go_simp
        all_goals (with_reducible rfl)
      try simp only [Act.put, List.getElem_toArray, List.getElem_cons_succ, List.getElem_cons_zero, List.setIfInBounds_toArray, List.set_cons_zero, List.set_cons_succ]
      refine wpAnyH_take (i := 23) (v := ?_) rfl (by kernel_rfl) (by kernel_rfl) (by kernel_rfl) (fun _ _ _ h => h) (Or.inl ⟨by rfl, ?_⟩) (by assumption) ?_
      rotate_left
      · intro Wq hSw
        clear hSw
        go_simp
        all_goals (with_reducible rfl)
      try simp only [Act.put, List.getElem_toArray, List.getElem_cons_succ, List.getElem_cons_zero, List.setIfInBounds_toArray, List.set_cons_zero, List.set_cons_succ]
      refine wpAnyH_take (i := 24) (v := ?_) rfl (by kernel_rfl) (by kernel_rfl) (by kernel_rfl) (fun _ _ _ h => h) (Or.inl ⟨by rfl, ?_⟩) (by assumption) ?_
      rotate_left
      · intro Wq hSw
        clear hSw
        go_simp
        all_goals (with_reducible rfl)
      try simp only [Act.put, List.getElem_toArray, List.getElem_cons_succ, List.getElem_cons_zero, List.setIfInBounds_toArray, List.set_cons_zero, List.set_cons_succ]
      refine r1 (i := 26) rfl (fun K hK => ?_)
      obtain ⟨d0, d1, d2⟩ := HX.out.three6
      obtain ⟨f0, f1, f2⟩ := HX.out.free36
      go_simp
      have hgx := HGX.out
      refine hK.out _ _ ⟨bl_set (bl_set (bl_set hHeld.1 (by dsimp only; exact hgx.1) _) (by dsimp only; exact hgx.1) _) (by dsimp only; exact hgx.1) _, tok_far6 (tok_far6 (tok_far6 hHeld.2 (Nat.ne_of_gt hgx.2) _) (Nat.ne_of_gt hgx.2) _) (Nat.ne_of_gt hgx.2) _⟩ (fun hHeld2 => ?_)
      clear hK K hHeld d0 d1 d2 f0 f1 f2 HX HGX hgx
      have hHeld := hHeld2
      clear hHeld2
      try simp only [Act.put, List.getElem_toArray, List.getElem_cons_succ, List.getElem_cons_zero, List.setIfInBounds_toArray, List.set_cons_zero, List.set_cons_succ]
      refine wpAnyH_take (i := 27) (v := ?_) rfl (by kernel_rfl) (by kernel_rfl) (by kernel_rfl) (fun _ _ _ h => h) (Or.inl ⟨by rfl, ?_⟩) (by assumption) ?_
      rotate_left
      · intro Wq hSw
        clear hSw
        go_simp
        all_goals (with_reducible rfl)
      try simp only [Act.put, List.getElem_toArray, List.getElem_cons_succ, List.getElem_cons_zero, List.setIfInBounds_toArray, List.set_cons_zero, List.set_cons_succ]
      refine wpAnyH_take (i := 28) (v := ?_) rfl (by kernel_rfl) (by kernel_rfl) (by kernel_rfl) (fun _ _ _ h => h) (Or.inl ⟨by rfl, ?_⟩) (by assumption) ?_
      rotate_left
      · intro Wq hSw
        clear hSw
        go_simp
        all_goals (with_reducible rfl)
      try simp only [Act.put, List.getElem_toArray, List.getElem_cons_succ, List.getElem_cons_zero, List.setIfInBounds_toArray, List.set_cons_zero, List.set_cons_succ]
      refine wpAnyH_done (by kernel_rfl) ?_ _
      go_wp2_with fail
      go_meet
      case rel => exact ⟨rfl, rfl, hHeld⟩
  case rest =>
  obtain ⟨rfl, rfl, hb⟩ := hcut
  have HB := Lib.hid hb.1
  clear hb HB0 HB1 s1 s2 s3 s4 s5 s6 w1 w2 w2' hux hux4 hvx1 hvx5 hvx3 hq0 hq1 hq2 l3 l4 l5
  go_wp2_with fail
  (with_reducible refine (KN.out _ (HT.out.below HB.out)).mono ?_); rintro e w29 ⟨rfl, hb9⟩
  have HB9 := Lib.hid (bl_trans HB.out hb9)
  clear hb9
  go_wp2_with fail
  go_ret
  exact ⟨rfl, HB9.out⟩
theorem iranges_l5 (p l i : List (Int × Int)) (ap al ai : Option Addr) (cp cl ci : Nat) (wh : Int) (more : Nat) (hmo : more < 65536) (w : World) (hT : Tab5 w) (hA : PolB5 w ap al ai cp cl ci p l i) :
    Calls Tryd.prog 7 #[.agg #[.slice ap p.length cp, .slice al l.length cl, .slice ai i.length ci], .int .i64 wh, .int .u16 (more : Int)] w (Gives (.bool true) w) :=
  irgA5.property ⟨irgB5⟩ p l i ap al ai cp cl ci wh more hmo w hT hA
end Go.Proofs.YtdpbmkfgolemjaaDoor
