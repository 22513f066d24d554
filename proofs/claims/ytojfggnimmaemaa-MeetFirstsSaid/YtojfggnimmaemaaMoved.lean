/-
  The walk of the law MeetMoved.
-/
import Derived.Test.YtojfggnimmaemaaMeetAll
import Derived.Test.YtojfggnimmaemaaGeoMath
namespace Go.Proofs.Ytojfggnimmaemaa
open Go.RowKit

theorem fit_b {p : Pt} (h : fitB p = true) : -4294967296 ≤ p.x ∧ p.x ≤ 4294967296 ∧ -4294967296 ≤ p.y ∧ p.y ≤ 4294967296 := fitB_iff.1 h
theorem wr {x : Int} (h : -9223372036854775808 ≤ x ∧ x ≤ 9223372036854775807) : IntKind.i64.wrap x = x := IntWalk.i64_in _ h

set_option maxHeartbeats 8000000 in
set_option maxRecDepth 100000 in
theorem moved_l (a b c d t : Pt) (w : World) : Calls Try.prog 17 #[.agg #[.int .i64 a.x, .int .i64 a.y], .agg #[.int .i64 b.x, .int .i64 b.y], .agg #[.int .i64 c.x, .int .i64 c.y], .agg #[.int .i64 d.x, .int .i64 d.y], .agg #[.int .i64 t.x, .int .i64 t.y]] w (Gives (.bool true) w) := by
  have C1 := hi (fun W => segs_l a b c d W)
  have C2 := hi (fun W => refFits_l t W)
  have he := segsE_vals a b c d
  have HF := hi (@segsE_ok a b c d)
  have RE := (rot_keeps [a, b, c, d]).segs (rot_apart a b c d)
  have ME := (mir_keeps [a, b, c, d]).segs (mir_apart a b c d)
  have AE := @segs_moved t a b c d
  have CR : Hid (∀ W, Calls Try.prog 46 #[.agg #[.int .i64 (-a.y), .int .i64 (a.x)], .agg #[.int .i64 (-b.y), .int .i64 (b.x)], .agg #[.int .i64 (-c.y), .int .i64 (c.x)], .agg #[.int .i64 (-d.y), .int .i64 (d.x)]] W (Gives (.tuple #[.int .i64 (segsN (rotP a) (rotP b) (rotP c) (rotP d)), .int .i64 (segsE (rotP a) (rotP b) (rotP c) (rotP d))]) W)) := fun W => segs_l (rotP a) (rotP b) (rotP c) (rotP d) W
  have CM : Hid (∀ W, Calls Try.prog 46 #[.agg #[.int .i64 (-a.x), .int .i64 (a.y)], .agg #[.int .i64 (-b.x), .int .i64 (b.y)], .agg #[.int .i64 (-c.x), .int .i64 (c.y)], .agg #[.int .i64 (-d.x), .int .i64 (d.y)]] W (Gives (.tuple #[.int .i64 (segsN (mirP a) (mirP b) (mirP c) (mirP d)), .int .i64 (segsE (mirP a) (mirP b) (mirP c) (mirP d))]) W)) := fun W => segs_l (mirP a) (mirP b) (mirP c) (mirP d) W
  have CA : Hid (∀ W, Calls Try.prog 46 #[.agg #[.int .i64 (a.x + t.x), .int .i64 (a.y + t.y)], .agg #[.int .i64 (b.x + t.x), .int .i64 (b.y + t.y)], .agg #[.int .i64 (c.x + t.x), .int .i64 (c.y + t.y)], .agg #[.int .i64 (d.x + t.x), .int .i64 (d.y + t.y)]] W (Gives (.tuple #[.int .i64 (segsN (addP t a) (addP t b) (addP t c) (addP t d)), .int .i64 (segsE (addP t a) (addP t b) (addP t c) (addP t d))]) W)) := fun W => segs_l (addP t a) (addP t b) (addP t c) (addP t d) W
  have hz := segsE_vals (addP t a) (addP t b) (addP t c) (addP t d)
  rw [RE.1, RE.2] at CR
  rw [ME.1, ME.2] at CM
  clear RE ME
  generalize segsN a b c d = n at *
  generalize segsE a b c d = e0 at *
  generalize segsN (addP t a) (addP t b) (addP t c) (addP t d) = z at *
  generalize segsE (addP t a) (addP t b) (addP t c) (addP t d) = f0 at *
  have HA := hi AE
  have HZ := hi hz
  clear AE hz
  obtain ⟨f, hf⟩ : ∃ f, fitB t = f := ⟨_, rfl⟩
  rw [hf] at C2
  have HT := hi hf
  clear hf
  go_enter Try.func17, Try.ntmps17
  go_upto_region 1 with (fail)
  refine wp_abs (fun W => Var W (w.heap.size) [.int .i64 a.x, .int .i64 a.y] ∧ Var W (w.heap.size + 1) [.int .i64 b.x, .int .i64 b.y] ∧ Var W (w.heap.size + 1 + 1) [.int .i64 c.x, .int .i64 c.y] ∧ Var W (w.heap.size + 1 + 1 + 1) [.int .i64 d.x, .int .i64 d.y] ∧ Var W (w.heap.size + 1 + 1 + 1 + 1) [.int .i64 t.x, .int .i64 t.y] ∧ Grew w 5 W) ?_ ?_
  · exact ⟨(var2_new _ _ _ _ _ rfl).below (bl_alloc (bl_alloc (bl_alloc (bl_one _ _) _) _) _), (var2_new _ _ _ _ _ (by simp)).below (bl_alloc (bl_alloc (bl_one _ _) _) _), (var2_new _ _ _ _ _ (by simp)).below (bl_alloc (bl_one _ _) _), (var2_new _ _ _ _ _ (by simp)).below (bl_one _ _), var2_new _ _ _ _ _ (by simp), by repeat (first | (with_reducible exact Below.refl _ _) | (with_reducible refine bl_alloc ?_ _) | (with_reducible refine Below.drew ?_) | (with_reducible refine below_drewN' ?_ _) | ((with_reducible refine bl_set ?_ ?_ _); (rotate_left; (dsimp only; omega)))), by simp⟩
  rintro W0 hS0
  have HS0 := hi hS0
  obtain ⟨c0, c1⟩ := hS0.1.two
  obtain ⟨c2, c3⟩ := hS0.2.1.two
  obtain ⟨c4, c5⟩ := hS0.2.2.1.two
  obtain ⟨c6, c7⟩ := hS0.2.2.2.1.two
  obtain ⟨c8, c9⟩ := hS0.2.2.2.2.1.two
  clear hS0
  go_wp2_with fail
  (with_reducible refine (C1.out _).mono ?_); rintro e w1 ⟨rfl, hb1⟩
  replace HS0 : Hid ((fun W => Var W (w.heap.size) [.int .i64 a.x, .int .i64 a.y] ∧ Var W (w.heap.size + 1) [.int .i64 b.x, .int .i64 b.y] ∧ Var W (w.heap.size + 1 + 1) [.int .i64 c.x, .int .i64 c.y] ∧ Var W (w.heap.size + 1 + 1 + 1) [.int .i64 d.x, .int .i64 d.y] ∧ Var W (w.heap.size + 1 + 1 + 1 + 1) [.int .i64 t.x, .int .i64 t.y] ∧ Grew w 5 W) w1) := ⟨HS0.out.1.below hb1, HS0.out.2.1.below hb1, HS0.out.2.2.1.below hb1, HS0.out.2.2.2.1.below hb1, HS0.out.2.2.2.2.1.below hb1, HS0.out.2.2.2.2.2.below hb1⟩
  clear c0 c1 c2 c3 c4 c5 c6 c7 c8 c9 hb1
  obtain ⟨c0, c1⟩ := HS0.out.1.two
  obtain ⟨c2, c3⟩ := HS0.out.2.1.two
  obtain ⟨c4, c5⟩ := HS0.out.2.2.1.two
  obtain ⟨c6, c7⟩ := HS0.out.2.2.2.1.two
  obtain ⟨c8, c9⟩ := HS0.out.2.2.2.2.1.two
  rcases he with rfl | rfl
  case inr =>
    clear c0 c1 c2 c3 c4 c5 c6 c7 c8 c9
    go_wp2_with (first
      | (go_at_call 48; (with_reducible refine (known4_l _).mono ?_); rintro e w2 ⟨rfl, hb2⟩)
      | go_in)
    go_ret
    exact ⟨rfl, (HS0.out.2.2.2.2.2.below hb2).hb⟩
  case inl =>
  go_wp2_with fail
  (with_reducible refine (C2.out _).mono ?_); rintro e w1 ⟨rfl, hb1⟩
  replace HS0 : Hid ((fun W => Var W (w.heap.size) [.int .i64 a.x, .int .i64 a.y] ∧ Var W (w.heap.size + 1) [.int .i64 b.x, .int .i64 b.y] ∧ Var W (w.heap.size + 1 + 1) [.int .i64 c.x, .int .i64 c.y] ∧ Var W (w.heap.size + 1 + 1 + 1) [.int .i64 d.x, .int .i64 d.y] ∧ Var W (w.heap.size + 1 + 1 + 1 + 1) [.int .i64 t.x, .int .i64 t.y] ∧ Grew w 5 W) w1) := ⟨HS0.out.1.below hb1, HS0.out.2.1.below hb1, HS0.out.2.2.1.below hb1, HS0.out.2.2.2.1.below hb1, HS0.out.2.2.2.2.1.below hb1, HS0.out.2.2.2.2.2.below hb1⟩
  clear c0 c1 c2 c3 c4 c5 c6 c7 c8 c9 hb1
  cases f
  case false =>
    go_wp2_with (first
      | (go_at_call 48; (with_reducible refine (known4_l _).mono ?_); rintro e w2 ⟨rfl, hb2⟩)
      | go_in)
    go_ret
    exact ⟨rfl, (HS0.out.2.2.2.2.2.below hb2).hb⟩
  case true =>
  obtain ⟨fa, fb, fc, fd⟩ := HF.out (by first | rfl | trivial)
  have ba := fit_b fa
  have bb := fit_b fb
  have bc := fit_b fc
  have bd := fit_b fd
  have bt := fit_b HT.out
  clear fa fb fc fd
  have w00 : IntKind.i64.wrap (-a.y) = -a.y := wr (by omega)
  have w01 : IntKind.i64.wrap (-a.x) = -a.x := wr (by omega)
  have w02 : IntKind.i64.wrap (a.x + t.x) = a.x + t.x := wr (by omega)
  have w03 : IntKind.i64.wrap (a.y + t.y) = a.y + t.y := wr (by omega)
  have w04 : IntKind.i64.wrap (-b.y) = -b.y := wr (by omega)
  have w05 : IntKind.i64.wrap (-b.x) = -b.x := wr (by omega)
  have w06 : IntKind.i64.wrap (b.x + t.x) = b.x + t.x := wr (by omega)
  have w07 : IntKind.i64.wrap (b.y + t.y) = b.y + t.y := wr (by omega)
  have w08 : IntKind.i64.wrap (-c.y) = -c.y := wr (by omega)
  have w09 : IntKind.i64.wrap (-c.x) = -c.x := wr (by omega)
  have w10 : IntKind.i64.wrap (c.x + t.x) = c.x + t.x := wr (by omega)
  have w11 : IntKind.i64.wrap (c.y + t.y) = c.y + t.y := wr (by omega)
  have w12 : IntKind.i64.wrap (-d.y) = -d.y := wr (by omega)
  have w13 : IntKind.i64.wrap (-d.x) = -d.x := wr (by omega)
  have w14 : IntKind.i64.wrap (d.x + t.x) = d.x + t.x := wr (by omega)
  have w15 : IntKind.i64.wrap (d.y + t.y) = d.y + t.y := wr (by omega)
  clear ba bb bc bd bt
  go_upto_region 4 with (fail)
  go_cut [13, 14] (fun x y W => x = .int .i64 n ∧ y = .int .i64 0 ∧ (fun W => Var W (w.heap.size) [.int .i64 a.x, .int .i64 a.y] ∧ Var W (w.heap.size + 1) [.int .i64 b.x, .int .i64 b.y] ∧ Var W (w.heap.size + 1 + 1) [.int .i64 c.x, .int .i64 c.y] ∧ Var W (w.heap.size + 1 + 1 + 1) [.int .i64 d.x, .int .i64 d.y] ∧ Var W (w.heap.size + 1 + 1 + 1 + 1) [.int .i64 t.x, .int .i64 t.y] ∧ Grew w 5 W) W)
  case first =>
    refine wp_region_held_drew (S := fun W => Var W (w.heap.size) [.int .i64 a.x, .int .i64 a.y] ∧ Var W (w.heap.size + 1) [.int .i64 b.x, .int .i64 b.y] ∧ Var W (w.heap.size + 1 + 1) [.int .i64 c.x, .int .i64 c.y] ∧ Var W (w.heap.size + 1 + 1 + 1) [.int .i64 d.x, .int .i64 d.y] ∧ Var W (w.heap.size + 1 + 1 + 1 + 1) [.int .i64 t.x, .int .i64 t.y] ∧ Grew w 5 W) (by kernel_rfl) ?_ (fun q1 => ?_)
    · exact ⟨HS0.out.1.below (bel_drew _), HS0.out.2.1.below (bel_drew _), HS0.out.2.2.1.below (bel_drew _), HS0.out.2.2.2.1.below (bel_drew _), HS0.out.2.2.2.2.1.below (bel_drew _), HS0.out.2.2.2.2.2.below (bel_drew _)⟩
    revert q1
    generalize World.drew _ = W1
    intro q1 
    refine tk (i := 0) (v := ?_) rfl (Or.inl ⟨by rfl, ?_⟩) ?_
    rotate_left
    · intro Wq hSw
      clear hSw
      go_simp
      all_goals (with_reducible rfl)
    try simp only [Act.put, x2, x4, x5, x6, x7]
    refine tk (i := 1) (v := ?_) rfl (Or.inl ⟨by rfl, ?_⟩) ?_
    rotate_left
    · intro Wq hSw
      obtain ⟨k0, k1⟩ := (id hSw).1.two
      clear hSw
      go_simp
      all_goals (with_reducible rfl)
    try simp only [Act.put, x2, x3, x4, x5, x6, x7]
    refine tk (i := 2) (v := ?_) rfl (Or.inl ⟨by rfl, ?_⟩) ?_
    rotate_left
    · intro Wq hSw
      clear hSw
      go_simp
      all_goals (with_reducible rfl)
    try simp only [Act.put, x2, x3, x4, x5, x6, x7]
    refine tk (i := 3) (v := ?_) rfl (Or.inl ⟨by rfl, ?_⟩) ?_
    rotate_left
    · intro Wq hSw
      clear hSw
      go_simp
      all_goals (with_reducible rfl)
    try simp only [Act.put, x2, x3, x4, x5, x6, x7]
    refine tk (i := 4) (v := ?_) rfl (Or.inl ⟨by rfl, ?_⟩) ?_
    rotate_left
    · intro Wq hSw
      obtain ⟨k0, k1⟩ := (id hSw).1.two
      clear hSw
      go_simp
      all_goals (with_reducible rfl)
    try simp only [Act.put, x2, x3, x4, x5, x6, x7]
    refine tk (i := 6) (v := ?_) rfl (Or.inl ⟨by rfl, ?_⟩) ?_
    rotate_left
    · intro Wq hSw
      clear hSw
      go_simp
      all_goals (with_reducible rfl)
    try simp only [Act.put, x2, x3, x4, x5, x6, x7]
    refine tk (i := 7) (v := ?_) rfl (Or.inl ⟨by rfl, ?_⟩) ?_
    rotate_left
    · intro Wq hSw
      obtain ⟨k0, k1⟩ := (id hSw).2.1.two
      clear hSw
      go_simp
      all_goals (with_reducible rfl)
    try simp only [Act.put, x2, x3, x4, x5, x6, x7]
    refine tk (i := 8) (v := ?_) rfl (Or.inl ⟨by rfl, ?_⟩) ?_
    rotate_left
    · intro Wq hSw
      clear hSw
      go_simp
      all_goals (with_reducible rfl)
    try simp only [Act.put, x2, x3, x4, x5, x6, x7]
    refine tk (i := 9) (v := ?_) rfl (Or.inl ⟨by rfl, ?_⟩) ?_
    rotate_left
    · intro Wq hSw
      clear hSw
      go_simp
      all_goals (with_reducible rfl)
    try simp only [Act.put, x2, x3, x4, x5, x6, x7]
    refine tk (i := 10) (v := ?_) rfl (Or.inl ⟨by rfl, ?_⟩) ?_
    rotate_left
    · intro Wq hSw
      obtain ⟨k0, k1⟩ := (id hSw).2.1.two
      clear hSw
      go_simp
      all_goals (with_reducible rfl)
    try simp only [Act.put, x2, x3, x4, x5, x6, x7]
    refine tk (i := 12) (v := ?_) rfl (Or.inl ⟨by rfl, ?_⟩) ?_
    rotate_left
    · intro Wq hSw
      clear hSw
      go_simp
      all_goals (with_reducible rfl)
    try simp only [Act.put, x2, x3, x4, x5, x6, x7]
    refine tk (i := 13) (v := ?_) rfl (Or.inl ⟨by rfl, ?_⟩) ?_
    rotate_left
    · intro Wq hSw
      obtain ⟨k0, k1⟩ := (id hSw).2.2.1.two
      clear hSw
      go_simp
      all_goals (with_reducible rfl)
    try simp only [Act.put, x2, x3, x4, x5, x6, x7]
    refine tk (i := 14) (v := ?_) rfl (Or.inl ⟨by rfl, ?_⟩) ?_
    rotate_left
    · intro Wq hSw
      clear hSw
      go_simp
      all_goals (with_reducible rfl)
    try simp only [Act.put, x2, x3, x4, x5, x6, x7]
    refine tk (i := 15) (v := ?_) rfl (Or.inl ⟨by rfl, ?_⟩) ?_
    rotate_left
    · intro Wq hSw
      clear hSw
      go_simp
      all_goals (with_reducible rfl)
    try simp only [Act.put, x2, x3, x4, x5, x6, x7]
    refine tk (i := 16) (v := ?_) rfl (Or.inl ⟨by rfl, ?_⟩) ?_
    rotate_left
    · intro Wq hSw
      obtain ⟨k0, k1⟩ := (id hSw).2.2.1.two
      clear hSw
      go_simp
      all_goals (with_reducible rfl)
    try simp only [Act.put, x2, x3, x4, x5, x6, x7]
    refine tk (i := 18) (v := ?_) rfl (Or.inl ⟨by rfl, ?_⟩) ?_
    rotate_left
    · intro Wq hSw
      clear hSw
      go_simp
      all_goals (with_reducible rfl)
    try simp only [Act.put, x2, x3, x4, x5, x6, x7]
    refine tk (i := 19) (v := ?_) rfl (Or.inl ⟨by rfl, ?_⟩) ?_
    rotate_left
    · intro Wq hSw
      obtain ⟨k0, k1⟩ := (id hSw).2.2.2.1.two
      clear hSw
      go_simp
      all_goals (with_reducible rfl)
    try simp only [Act.put, x2, x3, x4, x5, x6, x7]
    refine tk (i := 20) (v := ?_) rfl (Or.inl ⟨by rfl, ?_⟩) ?_
    rotate_left
    · intro Wq hSw
      clear hSw
      go_simp
      all_goals (with_reducible rfl)
    try simp only [Act.put, x2, x3, x4, x5, x6, x7]
    refine tk (i := 21) (v := ?_) rfl (Or.inl ⟨by rfl, ?_⟩) ?_
    rotate_left
    · intro Wq hSw
      clear hSw
      go_simp
      all_goals (with_reducible rfl)
    try simp only [Act.put, x2, x3, x4, x5, x6, x7]
    refine tk (i := 22) (v := ?_) rfl (Or.inl ⟨by rfl, ?_⟩) ?_
    rotate_left
    · intro Wq hSw
      obtain ⟨k0, k1⟩ := (id hSw).2.2.2.1.two
      clear hSw
      go_simp
      all_goals (with_reducible rfl)
    try simp only [Act.put, x2, x3, x4, x5, x6, x7]
    refine r1 (i := 5) rfl (fun K hK => ?_)
    go_simp
    go_at_call 54
    (with_reducible refine (p_l _ _ _).mono ?_); rintro e w1 ⟨rfl, hb1⟩
    go_wp2_with fail
    refine hK.out _ _ ?_ (fun q2 => ?_)
    · exact ⟨(id q1).1.below hb1, (id q1).2.1.below hb1, (id q1).2.2.1.below hb1, (id q1).2.2.2.1.below hb1, (id q1).2.2.2.2.1.below hb1, (id q1).2.2.2.2.2.below hb1⟩
    clear hK K q1 hb1
    have q1 := q2
    clear q2
    try simp only [Act.put, x2, x3, x4, x5, x6, x7]
    refine r1 (i := 11) rfl (fun K hK => ?_)
    go_simp
    go_at_call 54
    (with_reducible refine (p_l _ _ _).mono ?_); rintro e w1 ⟨rfl, hb1⟩
    go_wp2_with fail
    refine hK.out _ _ ?_ (fun q2 => ?_)
    · exact ⟨(id q1).1.below hb1, (id q1).2.1.below hb1, (id q1).2.2.1.below hb1, (id q1).2.2.2.1.below hb1, (id q1).2.2.2.2.1.below hb1, (id q1).2.2.2.2.2.below hb1⟩
    clear hK K q1 hb1
    have q1 := q2
    clear q2
    try simp only [Act.put, x2, x3, x4, x5, x6, x7]
    refine r1 (i := 17) rfl (fun K hK => ?_)
    go_simp
    go_at_call 54
    (with_reducible refine (p_l _ _ _).mono ?_); rintro e w1 ⟨rfl, hb1⟩
    go_wp2_with fail
    refine hK.out _ _ ?_ (fun q2 => ?_)
    · exact ⟨(id q1).1.below hb1, (id q1).2.1.below hb1, (id q1).2.2.1.below hb1, (id q1).2.2.2.1.below hb1, (id q1).2.2.2.2.1.below hb1, (id q1).2.2.2.2.2.below hb1⟩
    clear hK K q1 hb1
    have q1 := q2
    clear q2
    try simp only [Act.put, x2, x3, x4, x5, x6, x7]
    refine r1 (i := 23) rfl (fun K hK => ?_)
    go_simp
    go_at_call 54
    (with_reducible refine (p_l _ _ _).mono ?_); rintro e w1 ⟨rfl, hb1⟩
    go_wp2_with fail
    refine hK.out _ _ ?_ (fun q2 => ?_)
    · exact ⟨(id q1).1.below hb1, (id q1).2.1.below hb1, (id q1).2.2.1.below hb1, (id q1).2.2.2.1.below hb1, (id q1).2.2.2.2.1.below hb1, (id q1).2.2.2.2.2.below hb1⟩
    clear hK K q1 hb1
    have q1 := q2
    clear q2
    try simp only [Act.put, x2, x3, x4, x5, x6, x7]
    refine r1 (i := 24) rfl (fun K hK => ?_)
    go_simp
    go_at_call 46
    (with_reducible refine (CR.out _).mono ?_); rintro e w1 ⟨rfl, hb1⟩
    go_wp2_with fail
    refine hK.out _ _ ?_ (fun q2 => ?_)
    · exact ⟨(id q1).1.below hb1, (id q1).2.1.below hb1, (id q1).2.2.1.below hb1, (id q1).2.2.2.1.below hb1, (id q1).2.2.2.2.1.below hb1, (id q1).2.2.2.2.2.below hb1⟩
    clear hK K q1 hb1
    have q1 := q2
    clear q2
    try simp only [Act.put, x2, x3, x4, x5, x6, x7]
    refine tk (i := 25) (v := ?_) rfl (Or.inl ⟨by rfl, ?_⟩) ?_
    rotate_left
    · intro Wq hSw
      clear hSw
      go_simp
      all_goals (with_reducible rfl)
    try simp only [Act.put, x2, x3, x4, x5, x6, x7]
    refine tk (i := 26) (v := ?_) rfl (Or.inl ⟨by rfl, ?_⟩) ?_
    rotate_left
    · intro Wq hSw
      clear hSw
      go_simp
      all_goals (with_reducible rfl)
    try simp only [Act.put, x2, x3, x4, x5, x6, x7]
    refine tk (i := 27) (v := ?_) rfl (Or.inl ⟨by rfl, ?_⟩) ?_
    rotate_left
    · intro Wq hSw
      clear hSw
      go_simp
      all_goals (with_reducible rfl)
    try simp only [Act.put, x2, x3, x4, x5, x6, x7]
    refine tk (i := 28) (v := ?_) rfl (Or.inl ⟨by rfl, ?_⟩) ?_
    rotate_left
    · intro Wq hSw
      clear hSw
      go_simp
      all_goals (with_reducible rfl)
    try simp only [Act.put, x2, x3, x4, x5, x6, x7]
    refine tk (i := 29) (v := ?_) rfl (Or.inl ⟨by rfl, ?_⟩) ?_
    rotate_left
    · intro Wq hSw
      clear hSw
      go_simp
      all_goals (with_reducible rfl)
    try simp only [Act.put, x2, x3, x4, x5, x6, x7]
    refine wpAnyH_done (by kernel_rfl) ?_ _
    go_wp2_with fail
    go_meet
    case rel => exact ⟨rfl, rfl, id q1⟩
  case rest =>
  obtain ⟨rfl, rfl, hS0⟩ := hcut
  replace HS0 := hi hS0
  clear hS0
  go_upto_region 5 with (fail)
  go_cut [15, 16] (fun x y W => x = .int .i64 n ∧ y = .int .i64 0 ∧ (fun W => Var W (w.heap.size) [.int .i64 a.x, .int .i64 a.y] ∧ Var W (w.heap.size + 1) [.int .i64 b.x, .int .i64 b.y] ∧ Var W (w.heap.size + 1 + 1) [.int .i64 c.x, .int .i64 c.y] ∧ Var W (w.heap.size + 1 + 1 + 1) [.int .i64 d.x, .int .i64 d.y] ∧ Var W (w.heap.size + 1 + 1 + 1 + 1) [.int .i64 t.x, .int .i64 t.y] ∧ Grew w 5 W) W)
  case first =>
    refine wp_region_held_drew (S := fun W => Var W (w.heap.size) [.int .i64 a.x, .int .i64 a.y] ∧ Var W (w.heap.size + 1) [.int .i64 b.x, .int .i64 b.y] ∧ Var W (w.heap.size + 1 + 1) [.int .i64 c.x, .int .i64 c.y] ∧ Var W (w.heap.size + 1 + 1 + 1) [.int .i64 d.x, .int .i64 d.y] ∧ Var W (w.heap.size + 1 + 1 + 1 + 1) [.int .i64 t.x, .int .i64 t.y] ∧ Grew w 5 W) (by kernel_rfl) ?_ (fun q1 => ?_)
    · exact ⟨HS0.out.1.below (bel_drew _), HS0.out.2.1.below (bel_drew _), HS0.out.2.2.1.below (bel_drew _), HS0.out.2.2.2.1.below (bel_drew _), HS0.out.2.2.2.2.1.below (bel_drew _), HS0.out.2.2.2.2.2.below (bel_drew _)⟩
    revert q1
    generalize World.drew _ = W1
    intro q1 
    refine tk (i := 0) (v := ?_) rfl (Or.inl ⟨by rfl, ?_⟩) ?_
    rotate_left
    · intro Wq hSw
      clear hSw
      go_simp
      all_goals (with_reducible rfl)
    try simp only [Act.put, x2, x4, x5, x6, x7]
    refine tk (i := 1) (v := ?_) rfl (Or.inl ⟨by rfl, ?_⟩) ?_
    rotate_left
    · intro Wq hSw
      obtain ⟨k0, k1⟩ := (id hSw).1.two
      clear hSw
      go_simp
      all_goals (with_reducible rfl)
    try simp only [Act.put, x2, x3, x4, x5, x6, x7]
    refine tk (i := 2) (v := ?_) rfl (Or.inl ⟨by rfl, ?_⟩) ?_
    rotate_left
    · intro Wq hSw
      clear hSw
      go_simp
      all_goals (with_reducible rfl)
    try simp only [Act.put, x2, x3, x4, x5, x6, x7]
    refine tk (i := 3) (v := ?_) rfl (Or.inl ⟨by rfl, ?_⟩) ?_
    rotate_left
    · intro Wq hSw
      clear hSw
      go_simp
      all_goals (with_reducible rfl)
    try simp only [Act.put, x2, x3, x4, x5, x6, x7]
    refine tk (i := 4) (v := ?_) rfl (Or.inl ⟨by rfl, ?_⟩) ?_
    rotate_left
    · intro Wq hSw
      obtain ⟨k0, k1⟩ := (id hSw).1.two
      clear hSw
      go_simp
      all_goals (with_reducible rfl)
    try simp only [Act.put, x2, x3, x4, x5, x6, x7]
    refine tk (i := 6) (v := ?_) rfl (Or.inl ⟨by rfl, ?_⟩) ?_
    rotate_left
    · intro Wq hSw
      clear hSw
      go_simp
      all_goals (with_reducible rfl)
    try simp only [Act.put, x2, x3, x4, x5, x6, x7]
    refine tk (i := 7) (v := ?_) rfl (Or.inl ⟨by rfl, ?_⟩) ?_
    rotate_left
    · intro Wq hSw
      obtain ⟨k0, k1⟩ := (id hSw).2.1.two
      clear hSw
      go_simp
      all_goals (with_reducible rfl)
    try simp only [Act.put, x2, x3, x4, x5, x6, x7]
    refine tk (i := 8) (v := ?_) rfl (Or.inl ⟨by rfl, ?_⟩) ?_
    rotate_left
    · intro Wq hSw
      clear hSw
      go_simp
      all_goals (with_reducible rfl)
    try simp only [Act.put, x2, x3, x4, x5, x6, x7]
    refine tk (i := 9) (v := ?_) rfl (Or.inl ⟨by rfl, ?_⟩) ?_
    rotate_left
    · intro Wq hSw
      clear hSw
      go_simp
      all_goals (with_reducible rfl)
    try simp only [Act.put, x2, x3, x4, x5, x6, x7]
    refine tk (i := 10) (v := ?_) rfl (Or.inl ⟨by rfl, ?_⟩) ?_
    rotate_left
    · intro Wq hSw
      obtain ⟨k0, k1⟩ := (id hSw).2.1.two
      clear hSw
      go_simp
      all_goals (with_reducible rfl)
    try simp only [Act.put, x2, x3, x4, x5, x6, x7]
    refine tk (i := 12) (v := ?_) rfl (Or.inl ⟨by rfl, ?_⟩) ?_
    rotate_left
    · intro Wq hSw
      clear hSw
      go_simp
      all_goals (with_reducible rfl)
    try simp only [Act.put, x2, x3, x4, x5, x6, x7]
    refine tk (i := 13) (v := ?_) rfl (Or.inl ⟨by rfl, ?_⟩) ?_
    rotate_left
    · intro Wq hSw
      obtain ⟨k0, k1⟩ := (id hSw).2.2.1.two
      clear hSw
      go_simp
      all_goals (with_reducible rfl)
    try simp only [Act.put, x2, x3, x4, x5, x6, x7]
    refine tk (i := 14) (v := ?_) rfl (Or.inl ⟨by rfl, ?_⟩) ?_
    rotate_left
    · intro Wq hSw
      clear hSw
      go_simp
      all_goals (with_reducible rfl)
    try simp only [Act.put, x2, x3, x4, x5, x6, x7]
    refine tk (i := 15) (v := ?_) rfl (Or.inl ⟨by rfl, ?_⟩) ?_
    rotate_left
    · intro Wq hSw
      clear hSw
      go_simp
      all_goals (with_reducible rfl)
    try simp only [Act.put, x2, x3, x4, x5, x6, x7]
    refine tk (i := 16) (v := ?_) rfl (Or.inl ⟨by rfl, ?_⟩) ?_
    rotate_left
    · intro Wq hSw
      obtain ⟨k0, k1⟩ := (id hSw).2.2.1.two
      clear hSw
      go_simp
      all_goals (with_reducible rfl)
    try simp only [Act.put, x2, x3, x4, x5, x6, x7]
    refine tk (i := 18) (v := ?_) rfl (Or.inl ⟨by rfl, ?_⟩) ?_
    rotate_left
    · intro Wq hSw
      clear hSw
      go_simp
      all_goals (with_reducible rfl)
    try simp only [Act.put, x2, x3, x4, x5, x6, x7]
    refine tk (i := 19) (v := ?_) rfl (Or.inl ⟨by rfl, ?_⟩) ?_
    rotate_left
    · intro Wq hSw
      obtain ⟨k0, k1⟩ := (id hSw).2.2.2.1.two
      clear hSw
      go_simp
      all_goals (with_reducible rfl)
    try simp only [Act.put, x2, x3, x4, x5, x6, x7]
    refine tk (i := 20) (v := ?_) rfl (Or.inl ⟨by rfl, ?_⟩) ?_
    rotate_left
    · intro Wq hSw
      clear hSw
      go_simp
      all_goals (with_reducible rfl)
    try simp only [Act.put, x2, x3, x4, x5, x6, x7]
    refine tk (i := 21) (v := ?_) rfl (Or.inl ⟨by rfl, ?_⟩) ?_
    rotate_left
    · intro Wq hSw
      clear hSw
      go_simp
      all_goals (with_reducible rfl)
    try simp only [Act.put, x2, x3, x4, x5, x6, x7]
    refine tk (i := 22) (v := ?_) rfl (Or.inl ⟨by rfl, ?_⟩) ?_
    rotate_left
    · intro Wq hSw
      obtain ⟨k0, k1⟩ := (id hSw).2.2.2.1.two
      clear hSw
      go_simp
      all_goals (with_reducible rfl)
    try simp only [Act.put, x2, x3, x4, x5, x6, x7]
    refine r1 (i := 5) rfl (fun K hK => ?_)
    go_simp
    go_at_call 54
    (with_reducible refine (p_l _ _ _).mono ?_); rintro e w1 ⟨rfl, hb1⟩
    go_wp2_with fail
    refine hK.out _ _ ?_ (fun q2 => ?_)
    · exact ⟨(id q1).1.below hb1, (id q1).2.1.below hb1, (id q1).2.2.1.below hb1, (id q1).2.2.2.1.below hb1, (id q1).2.2.2.2.1.below hb1, (id q1).2.2.2.2.2.below hb1⟩
    clear hK K q1 hb1
    have q1 := q2
    clear q2
    try simp only [Act.put, x2, x3, x4, x5, x6, x7]
    refine r1 (i := 11) rfl (fun K hK => ?_)
    go_simp
    go_at_call 54
    (with_reducible refine (p_l _ _ _).mono ?_); rintro e w1 ⟨rfl, hb1⟩
    go_wp2_with fail
    refine hK.out _ _ ?_ (fun q2 => ?_)
    · exact ⟨(id q1).1.below hb1, (id q1).2.1.below hb1, (id q1).2.2.1.below hb1, (id q1).2.2.2.1.below hb1, (id q1).2.2.2.2.1.below hb1, (id q1).2.2.2.2.2.below hb1⟩
    clear hK K q1 hb1
    have q1 := q2
    clear q2
    try simp only [Act.put, x2, x3, x4, x5, x6, x7]
    refine r1 (i := 17) rfl (fun K hK => ?_)
    go_simp
    go_at_call 54
    (with_reducible refine (p_l _ _ _).mono ?_); rintro e w1 ⟨rfl, hb1⟩
    go_wp2_with fail
    refine hK.out _ _ ?_ (fun q2 => ?_)
    · exact ⟨(id q1).1.below hb1, (id q1).2.1.below hb1, (id q1).2.2.1.below hb1, (id q1).2.2.2.1.below hb1, (id q1).2.2.2.2.1.below hb1, (id q1).2.2.2.2.2.below hb1⟩
    clear hK K q1 hb1
    have q1 := q2
    clear q2
    try simp only [Act.put, x2, x3, x4, x5, x6, x7]
    refine r1 (i := 23) rfl (fun K hK => ?_)
    go_simp
    go_at_call 54
    (with_reducible refine (p_l _ _ _).mono ?_); rintro e w1 ⟨rfl, hb1⟩
    go_wp2_with fail
    refine hK.out _ _ ?_ (fun q2 => ?_)
    · exact ⟨(id q1).1.below hb1, (id q1).2.1.below hb1, (id q1).2.2.1.below hb1, (id q1).2.2.2.1.below hb1, (id q1).2.2.2.2.1.below hb1, (id q1).2.2.2.2.2.below hb1⟩
    clear hK K q1 hb1
    have q1 := q2
    clear q2
    try simp only [Act.put, x2, x3, x4, x5, x6, x7]
    refine r1 (i := 24) rfl (fun K hK => ?_)
    go_simp
    go_at_call 46
    (with_reducible refine (CM.out _).mono ?_); rintro e w1 ⟨rfl, hb1⟩
    go_wp2_with fail
    refine hK.out _ _ ?_ (fun q2 => ?_)
    · exact ⟨(id q1).1.below hb1, (id q1).2.1.below hb1, (id q1).2.2.1.below hb1, (id q1).2.2.2.1.below hb1, (id q1).2.2.2.2.1.below hb1, (id q1).2.2.2.2.2.below hb1⟩
    clear hK K q1 hb1
    have q1 := q2
    clear q2
    try simp only [Act.put, x2, x3, x4, x5, x6, x7]
    refine tk (i := 25) (v := ?_) rfl (Or.inl ⟨by rfl, ?_⟩) ?_
    rotate_left
    · intro Wq hSw
      clear hSw
      go_simp
      all_goals (with_reducible rfl)
    try simp only [Act.put, x2, x3, x4, x5, x6, x7]
    refine tk (i := 26) (v := ?_) rfl (Or.inl ⟨by rfl, ?_⟩) ?_
    rotate_left
    · intro Wq hSw
      clear hSw
      go_simp
      all_goals (with_reducible rfl)
    try simp only [Act.put, x2, x3, x4, x5, x6, x7]
    refine tk (i := 27) (v := ?_) rfl (Or.inl ⟨by rfl, ?_⟩) ?_
    rotate_left
    · intro Wq hSw
      clear hSw
      go_simp
      all_goals (with_reducible rfl)
    try simp only [Act.put, x2, x3, x4, x5, x6, x7]
    refine tk (i := 28) (v := ?_) rfl (Or.inl ⟨by rfl, ?_⟩) ?_
    rotate_left
    · intro Wq hSw
      clear hSw
      go_simp
      all_goals (with_reducible rfl)
    try simp only [Act.put, x2, x3, x4, x5, x6, x7]
    refine tk (i := 29) (v := ?_) rfl (Or.inl ⟨by rfl, ?_⟩) ?_
    rotate_left
    · intro Wq hSw
      clear hSw
      go_simp
      all_goals (with_reducible rfl)
    try simp only [Act.put, x2, x3, x4, x5, x6, x7]
    refine wpAnyH_done (by kernel_rfl) ?_ _
    go_wp2_with fail
    go_meet
    case rel => exact ⟨rfl, rfl, id q1⟩
  case rest =>
  obtain ⟨rfl, rfl, hS0⟩ := hcut
  replace HS0 := hi hS0
  clear hS0
  go_upto_region 6 with (fail)
  go_cut [17, 18] (fun x y W => x = .int .i64 z ∧ y = .int .i64 f0 ∧ (fun W => Var W (w.heap.size) [.int .i64 a.x, .int .i64 a.y] ∧ Var W (w.heap.size + 1) [.int .i64 b.x, .int .i64 b.y] ∧ Var W (w.heap.size + 1 + 1) [.int .i64 c.x, .int .i64 c.y] ∧ Var W (w.heap.size + 1 + 1 + 1) [.int .i64 d.x, .int .i64 d.y] ∧ Var W (w.heap.size + 1 + 1 + 1 + 1) [.int .i64 t.x, .int .i64 t.y] ∧ Grew w 5 W) W)
  case first =>
    refine wp_region_held_drew (S := fun W => Var W (w.heap.size) [.int .i64 a.x, .int .i64 a.y] ∧ Var W (w.heap.size + 1) [.int .i64 b.x, .int .i64 b.y] ∧ Var W (w.heap.size + 1 + 1) [.int .i64 c.x, .int .i64 c.y] ∧ Var W (w.heap.size + 1 + 1 + 1) [.int .i64 d.x, .int .i64 d.y] ∧ Var W (w.heap.size + 1 + 1 + 1 + 1) [.int .i64 t.x, .int .i64 t.y] ∧ Grew w 5 W) (by kernel_rfl) ?_ (fun q1 => ?_)
    · exact ⟨HS0.out.1.below (bel_drew _), HS0.out.2.1.below (bel_drew _), HS0.out.2.2.1.below (bel_drew _), HS0.out.2.2.2.1.below (bel_drew _), HS0.out.2.2.2.2.1.below (bel_drew _), HS0.out.2.2.2.2.2.below (bel_drew _)⟩
    revert q1
    generalize World.drew _ = W1
    intro q1 
    refine tk (i := 0) (v := ?_) rfl (Or.inl ⟨by rfl, ?_⟩) ?_
    rotate_left
    · intro Wq hSw
      clear hSw
      go_simp
      all_goals (with_reducible rfl)
    try simp only [Act.put, x2, x4, x5, x6, x7]
    refine tk (i := 1) (v := ?_) rfl (Or.inl ⟨by rfl, ?_⟩) ?_
    rotate_left
    · intro Wq hSw
      obtain ⟨k0, k1⟩ := (id hSw).1.two
      clear hSw
      go_simp
      all_goals (with_reducible rfl)
    try simp only [Act.put, x2, x3, x4, x5, x6, x7]
    refine tk (i := 2) (v := ?_) rfl (Or.inl ⟨by rfl, ?_⟩) ?_
    rotate_left
    · intro Wq hSw
      clear hSw
      go_simp
      all_goals (with_reducible rfl)
    try simp only [Act.put, x2, x3, x4, x5, x6, x7]
    refine tk (i := 3) (v := ?_) rfl (Or.inl ⟨by rfl, ?_⟩) ?_
    rotate_left
    · intro Wq hSw
      obtain ⟨k0, k1⟩ := (id hSw).2.2.2.2.1.two
      clear hSw
      go_simp
      all_goals (with_reducible rfl)
    try simp only [Act.put, x2, x3, x4, x5, x6, x7]
    refine tk (i := 4) (v := ?_) rfl (Or.inl ⟨by rfl, ?_⟩) ?_
    rotate_left
    · intro Wq hSw
      clear hSw
      go_simp
      all_goals (with_reducible rfl)
    try simp only [Act.put, x2, x3, x4, x5, x6, x7]
    refine tk (i := 5) (v := ?_) rfl (Or.inl ⟨by rfl, ?_⟩) ?_
    rotate_left
    · intro Wq hSw
      clear hSw
      go_simp
      all_goals (with_reducible rfl)
    try simp only [Act.put, x2, x3, x4, x5, x6, x7]
    refine tk (i := 6) (v := ?_) rfl (Or.inl ⟨by rfl, ?_⟩) ?_
    rotate_left
    · intro Wq hSw
      obtain ⟨k0, k1⟩ := (id hSw).1.two
      clear hSw
      go_simp
      all_goals (with_reducible rfl)
    try simp only [Act.put, x2, x3, x4, x5, x6, x7]
    refine tk (i := 7) (v := ?_) rfl (Or.inl ⟨by rfl, ?_⟩) ?_
    rotate_left
    · intro Wq hSw
      clear hSw
      go_simp
      all_goals (with_reducible rfl)
    try simp only [Act.put, x2, x3, x4, x5, x6, x7]
    refine tk (i := 8) (v := ?_) rfl (Or.inl ⟨by rfl, ?_⟩) ?_
    rotate_left
    · intro Wq hSw
      obtain ⟨k0, k1⟩ := (id hSw).2.2.2.2.1.two
      clear hSw
      go_simp
      all_goals (with_reducible rfl)
    try simp only [Act.put, x2, x3, x4, x5, x6, x7]
    refine tk (i := 9) (v := ?_) rfl (Or.inl ⟨by rfl, ?_⟩) ?_
    rotate_left
    · intro Wq hSw
      clear hSw
      go_simp
      all_goals (with_reducible rfl)
    try simp only [Act.put, x2, x3, x4, x5, x6, x7]
    refine tk (i := 11) (v := ?_) rfl (Or.inl ⟨by rfl, ?_⟩) ?_
    rotate_left
    · intro Wq hSw
      clear hSw
      go_simp
      all_goals (with_reducible rfl)
    try simp only [Act.put, x2, x3, x4, x5, x6, x7]
    refine tk (i := 12) (v := ?_) rfl (Or.inl ⟨by rfl, ?_⟩) ?_
    rotate_left
    · intro Wq hSw
      obtain ⟨k0, k1⟩ := (id hSw).2.1.two
      clear hSw
      go_simp
      all_goals (with_reducible rfl)
    try simp only [Act.put, x2, x3, x4, x5, x6, x7]
    refine tk (i := 13) (v := ?_) rfl (Or.inl ⟨by rfl, ?_⟩) ?_
    rotate_left
    · intro Wq hSw
      clear hSw
      go_simp
      all_goals (with_reducible rfl)
    try simp only [Act.put, x2, x3, x4, x5, x6, x7]
    refine tk (i := 14) (v := ?_) rfl (Or.inl ⟨by rfl, ?_⟩) ?_
    rotate_left
    · intro Wq hSw
      obtain ⟨k0, k1⟩ := (id hSw).2.2.2.2.1.two
      clear hSw
      go_simp
      all_goals (with_reducible rfl)
    try simp only [Act.put, x2, x3, x4, x5, x6, x7]
    refine tk (i := 15) (v := ?_) rfl (Or.inl ⟨by rfl, ?_⟩) ?_
    rotate_left
    · intro Wq hSw
      clear hSw
      go_simp
      all_goals (with_reducible rfl)
    try simp only [Act.put, x2, x3, x4, x5, x6, x7]
    refine tk (i := 16) (v := ?_) rfl (Or.inl ⟨by rfl, ?_⟩) ?_
    rotate_left
    · intro Wq hSw
      clear hSw
      go_simp
      all_goals (with_reducible rfl)
    try simp only [Act.put, x2, x3, x4, x5, x6, x7]
    refine tk (i := 17) (v := ?_) rfl (Or.inl ⟨by rfl, ?_⟩) ?_
    rotate_left
    · intro Wq hSw
      obtain ⟨k0, k1⟩ := (id hSw).2.1.two
      clear hSw
      go_simp
      all_goals (with_reducible rfl)
    try simp only [Act.put, x2, x3, x4, x5, x6, x7]
    refine tk (i := 18) (v := ?_) rfl (Or.inl ⟨by rfl, ?_⟩) ?_
    rotate_left
    · intro Wq hSw
      clear hSw
      go_simp
      all_goals (with_reducible rfl)
    try simp only [Act.put, x2, x3, x4, x5, x6, x7]
    refine tk (i := 19) (v := ?_) rfl (Or.inl ⟨by rfl, ?_⟩) ?_
    rotate_left
    · intro Wq hSw
      obtain ⟨k0, k1⟩ := (id hSw).2.2.2.2.1.two
      clear hSw
      go_simp
      all_goals (with_reducible rfl)
    try simp only [Act.put, x2, x3, x4, x5, x6, x7]
    refine tk (i := 20) (v := ?_) rfl (Or.inl ⟨by rfl, ?_⟩) ?_
    rotate_left
    · intro Wq hSw
      clear hSw
      go_simp
      all_goals (with_reducible rfl)
    try simp only [Act.put, x2, x3, x4, x5, x6, x7]
    refine tk (i := 22) (v := ?_) rfl (Or.inl ⟨by rfl, ?_⟩) ?_
    rotate_left
    · intro Wq hSw
      clear hSw
      go_simp
      all_goals (with_reducible rfl)
    try simp only [Act.put, x2, x3, x4, x5, x6, x7]
    refine tk (i := 23) (v := ?_) rfl (Or.inl ⟨by rfl, ?_⟩) ?_
    rotate_left
    · intro Wq hSw
      obtain ⟨k0, k1⟩ := (id hSw).2.2.1.two
      clear hSw
      go_simp
      all_goals (with_reducible rfl)
    try simp only [Act.put, x2, x3, x4, x5, x6, x7]
    refine tk (i := 24) (v := ?_) rfl (Or.inl ⟨by rfl, ?_⟩) ?_
    rotate_left
    · intro Wq hSw
      clear hSw
      go_simp
      all_goals (with_reducible rfl)
    try simp only [Act.put, x2, x3, x4, x5, x6, x7]
    refine tk (i := 25) (v := ?_) rfl (Or.inl ⟨by rfl, ?_⟩) ?_
    rotate_left
    · intro Wq hSw
      obtain ⟨k0, k1⟩ := (id hSw).2.2.2.2.1.two
      clear hSw
      go_simp
      all_goals (with_reducible rfl)
    try simp only [Act.put, x2, x3, x4, x5, x6, x7]
    refine tk (i := 26) (v := ?_) rfl (Or.inl ⟨by rfl, ?_⟩) ?_
    rotate_left
    · intro Wq hSw
      clear hSw
      go_simp
      all_goals (with_reducible rfl)
    try simp only [Act.put, x2, x3, x4, x5, x6, x7]
    refine tk (i := 27) (v := ?_) rfl (Or.inl ⟨by rfl, ?_⟩) ?_
    rotate_left
    · intro Wq hSw
      clear hSw
      go_simp
      all_goals (with_reducible rfl)
    try simp only [Act.put, x2, x3, x4, x5, x6, x7]
    refine tk (i := 28) (v := ?_) rfl (Or.inl ⟨by rfl, ?_⟩) ?_
    rotate_left
    · intro Wq hSw
      obtain ⟨k0, k1⟩ := (id hSw).2.2.1.two
      clear hSw
      go_simp
      all_goals (with_reducible rfl)
    try simp only [Act.put, x2, x3, x4, x5, x6, x7]
    refine tk (i := 29) (v := ?_) rfl (Or.inl ⟨by rfl, ?_⟩) ?_
    rotate_left
    · intro Wq hSw
      clear hSw
      go_simp
      all_goals (with_reducible rfl)
    try simp only [Act.put, x2, x3, x4, x5, x6, x7]
    refine tk (i := 30) (v := ?_) rfl (Or.inl ⟨by rfl, ?_⟩) ?_
    rotate_left
    · intro Wq hSw
      obtain ⟨k0, k1⟩ := (id hSw).2.2.2.2.1.two
      clear hSw
      go_simp
      all_goals (with_reducible rfl)
    try simp only [Act.put, x2, x3, x4, x5, x6, x7]
    refine tk (i := 31) (v := ?_) rfl (Or.inl ⟨by rfl, ?_⟩) ?_
    rotate_left
    · intro Wq hSw
      clear hSw
      go_simp
      all_goals (with_reducible rfl)
    try simp only [Act.put, x2, x3, x4, x5, x6, x7]
    refine tk (i := 33) (v := ?_) rfl (Or.inl ⟨by rfl, ?_⟩) ?_
    rotate_left
    · intro Wq hSw
      clear hSw
      go_simp
      all_goals (with_reducible rfl)
    try simp only [Act.put, x2, x3, x4, x5, x6, x7]
    refine tk (i := 34) (v := ?_) rfl (Or.inl ⟨by rfl, ?_⟩) ?_
    rotate_left
    · intro Wq hSw
      obtain ⟨k0, k1⟩ := (id hSw).2.2.2.1.two
      clear hSw
      go_simp
      all_goals (with_reducible rfl)
    try simp only [Act.put, x2, x3, x4, x5, x6, x7]
    refine tk (i := 35) (v := ?_) rfl (Or.inl ⟨by rfl, ?_⟩) ?_
    rotate_left
    · intro Wq hSw
      clear hSw
      go_simp
      all_goals (with_reducible rfl)
    try simp only [Act.put, x2, x3, x4, x5, x6, x7]
    refine tk (i := 36) (v := ?_) rfl (Or.inl ⟨by rfl, ?_⟩) ?_
    rotate_left
    · intro Wq hSw
      obtain ⟨k0, k1⟩ := (id hSw).2.2.2.2.1.two
      clear hSw
      go_simp
      all_goals (with_reducible rfl)
    try simp only [Act.put, x2, x3, x4, x5, x6, x7]
    refine tk (i := 37) (v := ?_) rfl (Or.inl ⟨by rfl, ?_⟩) ?_
    rotate_left
    · intro Wq hSw
      clear hSw
      go_simp
      all_goals (with_reducible rfl)
    try simp only [Act.put, x2, x3, x4, x5, x6, x7]
    refine tk (i := 38) (v := ?_) rfl (Or.inl ⟨by rfl, ?_⟩) ?_
    rotate_left
    · intro Wq hSw
      clear hSw
      go_simp
      all_goals (with_reducible rfl)
    try simp only [Act.put, x2, x3, x4, x5, x6, x7]
    refine tk (i := 39) (v := ?_) rfl (Or.inl ⟨by rfl, ?_⟩) ?_
    rotate_left
    · intro Wq hSw
      obtain ⟨k0, k1⟩ := (id hSw).2.2.2.1.two
      clear hSw
      go_simp
      all_goals (with_reducible rfl)
    try simp only [Act.put, x2, x3, x4, x5, x6, x7]
    refine tk (i := 40) (v := ?_) rfl (Or.inl ⟨by rfl, ?_⟩) ?_
    rotate_left
    · intro Wq hSw
      clear hSw
      go_simp
      all_goals (with_reducible rfl)
    try simp only [Act.put, x2, x3, x4, x5, x6, x7]
    refine tk (i := 41) (v := ?_) rfl (Or.inl ⟨by rfl, ?_⟩) ?_
    rotate_left
    · intro Wq hSw
      obtain ⟨k0, k1⟩ := (id hSw).2.2.2.2.1.two
      clear hSw
      go_simp
      all_goals (with_reducible rfl)
    try simp only [Act.put, x2, x3, x4, x5, x6, x7]
    refine tk (i := 42) (v := ?_) rfl (Or.inl ⟨by rfl, ?_⟩) ?_
    rotate_left
    · intro Wq hSw
      clear hSw
      go_simp
      all_goals (with_reducible rfl)
    try simp only [Act.put, x2, x3, x4, x5, x6, x7]
    refine r1 (i := 10) rfl (fun K hK => ?_)
    go_simp
    go_at_call 54
    (with_reducible refine (p_l _ _ _).mono ?_); rintro e w1 ⟨rfl, hb1⟩
    go_wp2_with fail
    refine hK.out _ _ ?_ (fun q2 => ?_)
    · exact ⟨(id q1).1.below hb1, (id q1).2.1.below hb1, (id q1).2.2.1.below hb1, (id q1).2.2.2.1.below hb1, (id q1).2.2.2.2.1.below hb1, (id q1).2.2.2.2.2.below hb1⟩
    clear hK K q1 hb1
    have q1 := q2
    clear q2
    try simp only [Act.put, x2, x3, x4, x5, x6, x7]
    refine r1 (i := 21) rfl (fun K hK => ?_)
    go_simp
    go_at_call 54
    (with_reducible refine (p_l _ _ _).mono ?_); rintro e w1 ⟨rfl, hb1⟩
    go_wp2_with fail
    refine hK.out _ _ ?_ (fun q2 => ?_)
    · exact ⟨(id q1).1.below hb1, (id q1).2.1.below hb1, (id q1).2.2.1.below hb1, (id q1).2.2.2.1.below hb1, (id q1).2.2.2.2.1.below hb1, (id q1).2.2.2.2.2.below hb1⟩
    clear hK K q1 hb1
    have q1 := q2
    clear q2
    try simp only [Act.put, x2, x3, x4, x5, x6, x7]
    refine r1 (i := 32) rfl (fun K hK => ?_)
    go_simp
    go_at_call 54
    (with_reducible refine (p_l _ _ _).mono ?_); rintro e w1 ⟨rfl, hb1⟩
    go_wp2_with fail
    refine hK.out _ _ ?_ (fun q2 => ?_)
    · exact ⟨(id q1).1.below hb1, (id q1).2.1.below hb1, (id q1).2.2.1.below hb1, (id q1).2.2.2.1.below hb1, (id q1).2.2.2.2.1.below hb1, (id q1).2.2.2.2.2.below hb1⟩
    clear hK K q1 hb1
    have q1 := q2
    clear q2
    try simp only [Act.put, x2, x3, x4, x5, x6, x7]
    refine r1 (i := 43) rfl (fun K hK => ?_)
    go_simp
    go_at_call 54
    (with_reducible refine (p_l _ _ _).mono ?_); rintro e w1 ⟨rfl, hb1⟩
    go_wp2_with fail
    refine hK.out _ _ ?_ (fun q2 => ?_)
    · exact ⟨(id q1).1.below hb1, (id q1).2.1.below hb1, (id q1).2.2.1.below hb1, (id q1).2.2.2.1.below hb1, (id q1).2.2.2.2.1.below hb1, (id q1).2.2.2.2.2.below hb1⟩
    clear hK K q1 hb1
    have q1 := q2
    clear q2
    try simp only [Act.put, x2, x3, x4, x5, x6, x7]
    refine r1 (i := 44) rfl (fun K hK => ?_)
    go_simp
    go_at_call 46
    (with_reducible refine (CA.out _).mono ?_); rintro e w1 ⟨rfl, hb1⟩
    go_wp2_with fail
    refine hK.out _ _ ?_ (fun q2 => ?_)
    · exact ⟨(id q1).1.below hb1, (id q1).2.1.below hb1, (id q1).2.2.1.below hb1, (id q1).2.2.2.1.below hb1, (id q1).2.2.2.2.1.below hb1, (id q1).2.2.2.2.2.below hb1⟩
    clear hK K q1 hb1
    have q1 := q2
    clear q2
    try simp only [Act.put, x2, x3, x4, x5, x6, x7]
    refine tk (i := 45) (v := ?_) rfl (Or.inl ⟨by rfl, ?_⟩) ?_
    rotate_left
    · intro Wq hSw
      clear hSw
      go_simp
      all_goals (with_reducible rfl)
    try simp only [Act.put, x2, x3, x4, x5, x6, x7]
    refine tk (i := 46) (v := ?_) rfl (Or.inl ⟨by rfl, ?_⟩) ?_
    rotate_left
    · intro Wq hSw
      clear hSw
      go_simp
      all_goals (with_reducible rfl)
    try simp only [Act.put, x2, x3, x4, x5, x6, x7]
    refine tk (i := 47) (v := ?_) rfl (Or.inl ⟨by rfl, ?_⟩) ?_
    rotate_left
    · intro Wq hSw
      clear hSw
      go_simp
      all_goals (with_reducible rfl)
    try simp only [Act.put, x2, x3, x4, x5, x6, x7]
    refine tk (i := 48) (v := ?_) rfl (Or.inl ⟨by rfl, ?_⟩) ?_
    rotate_left
    · intro Wq hSw
      clear hSw
      go_simp
      all_goals (with_reducible rfl)
    try simp only [Act.put, x2, x3, x4, x5, x6, x7]
    refine tk (i := 49) (v := ?_) rfl (Or.inl ⟨by rfl, ?_⟩) ?_
    rotate_left
    · intro Wq hSw
      clear hSw
      go_simp
      all_goals (with_reducible rfl)
    try simp only [Act.put, x2, x3, x4, x5, x6, x7]
    refine wpAnyH_done (by kernel_rfl) ?_ _
    go_wp2_with fail
    go_meet
    case rel => exact ⟨rfl, rfl, id q1⟩
  case rest =>
  obtain ⟨rfl, rfl, hS0⟩ := hcut
  replace HS0 := hi hS0
  clear hS0
  clear w00 w01 w02 w03 w04 w05 w06 w07 w08 w09 w10 w11 w12 w13 w14 w15
  have HG := hi HS0.out.2.2.2.2.2
  have b1 : (n == n) = true := by simp
  have hzz : f0 = 2 ∨ (f0 = 0 ∧ z = n) := by
    rcases HZ.out with h | h
    · exact .inr ⟨h, HA.out (by first | rfl | trivial) h⟩
    · exact .inl h
  rcases hzz with rfl | ⟨rfl, rfl⟩
  all_goals
    go_wp2_with (first
      | (go_at_call 48; (with_reducible refine (known4_l _).mono ?_); rintro e w2 ⟨rfl, hb2⟩)
      | go_in)
    go_ret
    exact ⟨rfl, (HG.out.below hb2).hb⟩
end Go.Proofs.Ytojfggnimmaemaa
