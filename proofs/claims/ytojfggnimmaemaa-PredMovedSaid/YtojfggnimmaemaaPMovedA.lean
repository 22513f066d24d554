/-
  The walk of the law PredMoved.
-/
import Derived.Test.YtojfggnimmaemaaKnown3
import Derived.Test.YtojfggnimmaemaaPredMath2
import Derived.Test.YtojfggnimmaemaaGeoAll
namespace Go.Proofs.Ytojfggnimmaemaa
open Go.RowKit

set_option maxHeartbeats 1000000 in
set_option maxRecDepth 100000 in
theorem moved3_l (p t : Pt) (hp : fitB p = true) (ht : fitB t = true) (w : World) : Calls Try.prog 43 #[.agg #[.int .i64 p.x, .int .i64 p.y], .agg #[.int .i64 t.x, .int .i64 t.y]] w (Gives (.agg #[.int .i64 (mvP p t).x, .int .i64 (mvP p t).y]) w) := by
  have h1 := fitB_iff.1 hp
  have h2 := fitB_iff.1 ht
  unfold Pt.fits at h1 h2
  obtain ⟨x, hx, nx, mx⟩ : ∃ x, (mvP p t).x = x ∧ IntKind.i64.wrap (p.x + t.x) = x ∧ wrap64 (p.x + t.x) = x := ⟨_, rfl, IntWalk.i64_in _ (by omega), by unfold wrap64 mvP; dsimp only; omega⟩
  obtain ⟨y, hy, ny, my⟩ : ∃ x, (mvP p t).y = x ∧ IntKind.i64.wrap (p.y + t.y) = x ∧ wrap64 (p.y + t.y) = x := ⟨_, rfl, IntWalk.i64_in _ (by omega), by unfold wrap64 mvP; dsimp only; omega⟩
  rw [hx, hy]
  clear h1 h2 hp ht hx hy
  go_enter Try.func43, Try.ntmps43
  go_wp2
  refine bodyPost_ret (v := .agg #[.int .i64 x, .int .i64 y]) (by simp [results, Try.results43, go_sem]; done) rfl ⟨rfl, by repeat (first | (with_reducible exact Below.refl _ _) | (with_reducible refine bl_alloc ?_ _) | (with_reducible refine Below.drew ?_) | (with_reducible refine below_drewN' ?_ _) | ((with_reducible refine bl_set ?_ ?_ _); (rotate_left; (dsimp only; omega))))⟩
set_option maxHeartbeats 1000000 in
set_option maxRecDepth 100000 in
theorem turned3_l (p : Pt) (hp : fitB p = true) (w : World) : Calls Try.prog 44 #[.agg #[.int .i64 p.x, .int .i64 p.y]] w (Gives (.agg #[.int .i64 (tnP p).x, .int .i64 (tnP p).y]) w) := by
  have h1 := fitB_iff.1 hp
  unfold Pt.fits at h1
  obtain ⟨x, hx, nx, mx⟩ : ∃ x, (tnP p).x = x ∧ IntKind.i64.wrap (-p.y) = x ∧ wrap64 (-p.y) = x := ⟨_, rfl, IntWalk.i64_in _ (by omega), by unfold wrap64 tnP; dsimp only; omega⟩
  have hy : (tnP p).y = p.x := rfl
  rw [hx, hy]
  clear h1 hp hx hy
  go_enter Try.func44, Try.ntmps44
  go_wp2
  refine bodyPost_ret (v := .agg #[.int .i64 x, .int .i64 p.x]) (by simp [results, Try.results44, go_sem]; done) rfl ⟨rfl, by repeat (first | (with_reducible exact Below.refl _ _) | (with_reducible refine bl_alloc ?_ _) | (with_reducible refine Below.drew ?_) | (with_reducible refine below_drewN' ?_ _) | ((with_reducible refine bl_set ?_ ?_ _); (rotate_left; (dsimp only; omega))))⟩
set_option maxHeartbeats 1000000 in
set_option maxRecDepth 100000 in
theorem mirrored3_l (p : Pt) (hp : fitB p = true) (w : World) : Calls Try.prog 45 #[.agg #[.int .i64 p.x, .int .i64 p.y]] w (Gives (.agg #[.int .i64 (miP p).x, .int .i64 (miP p).y]) w) := by
  have h1 := fitB_iff.1 hp
  unfold Pt.fits at h1
  obtain ⟨x, hx, nx, mx⟩ : ∃ x, (miP p).x = x ∧ IntKind.i64.wrap (-p.x) = x ∧ wrap64 (-p.x) = x := ⟨_, rfl, IntWalk.i64_in _ (by omega), by unfold wrap64 miP; dsimp only; omega⟩
  have hy : (miP p).y = p.y := rfl
  rw [hx, hy]
  clear h1 hp hx hy
  go_enter Try.func45, Try.ntmps45
  go_wp2
  refine bodyPost_ret (v := .agg #[.int .i64 x, .int .i64 p.y]) (by simp [results, Try.results45, go_sem]; done) rfl ⟨rfl, by repeat (first | (with_reducible exact Below.refl _ _) | (with_reducible refine bl_alloc ?_ _) | (with_reducible refine Below.drew ?_) | (with_reducible refine below_drewN' ?_ _) | ((with_reducible refine bl_set ?_ ?_ _); (rotate_left; (dsimp only; omega))))⟩
theorem fits4_at (W : World) (g cap : Nat) (a b c d : Pt) (r : Bool) (h : (fitB a && fitB b && fitB c && fitB d) = r) (hl : PtsAt W g 0 [a, b, c, d]) : Calls Try.prog 42 #[.slice (some ⟨g, 0, none⟩) 4 cap] W (Gives (.bool r) W) := by
  have := fits_l [a, b, c, d] g 0 cap (by simp) _ hl
  rw [show fitL [a, b, c, d] = r by rw [← h]; simp [fitL, Bool.and_assoc]] at this
  exact this

/-- what is left of a walk -/
structure Tail (P : Prop) : Prop where
  out : P

set_option maxHeartbeats 16000000 in
set_option maxRecDepth 100000 in
noncomputable def pmA (a b c d t : Pt) (w : World) : {P : Prop // Tail P → Calls Try.prog 9 #[.agg #[.int .i64 a.x, .int .i64 a.y], .agg #[.int .i64 b.x, .int .i64 b.y], .agg #[.int .i64 c.x, .int .i64 c.y], .agg #[.int .i64 d.x, .int .i64 d.y], .agg #[.int .i64 t.x, .int .i64 t.y]] w (Gives (.bool true) w)} := ⟨_, fun hP => by
  obtain ⟨r1, hr1⟩ : ∃ r, (fitB a && fitB b && fitB c && fitB d) = r := ⟨_, rfl⟩
  obtain ⟨r2, hr2⟩ : ∃ r, fitB t = r := ⟨_, rfl⟩
  have HR1 := Lib.hid hr1
  have HR2 := Lib.hid hr2
  clear hr1 hr2
  have F1 := Lib.hid (fun W => refFits3_l a W)
  have F2 := Lib.hid (fun W => refFits3_l b W)
  have F3 := Lib.hid (fun W => refFits3_l c W)
  have F4 := Lib.hid (fun W => refFits3_l d W)
  have F5 := Lib.hid (fun W => refFits3_l t W)
  go_enter Try.func9, Try.ntmps9
  go_upto_region 1 with (fail)
  refine wp_abs (fun W => Var W (w.heap.size) [.int .i64 a.x, .int .i64 a.y] ∧ Var W (w.heap.size + 1) [.int .i64 b.x, .int .i64 b.y] ∧ Var W (w.heap.size + 1 + 1) [.int .i64 c.x, .int .i64 c.y] ∧ Var W (w.heap.size + 1 + 1 + 1) [.int .i64 d.x, .int .i64 d.y] ∧ Var W (w.heap.size + 1 + 1 + 1 + 1) [.int .i64 t.x, .int .i64 t.y] ∧ Grew w 5 W) ?_ ?_
  · exact ⟨(var2_new _ _ _ _ _ rfl).below (bl_alloc (bl_alloc (bl_alloc (bl_one _ _) _) _) _), (var2_new _ _ _ _ _ (by simp)).below (bl_alloc (bl_alloc (bl_one _ _) _) _), (var2_new _ _ _ _ _ (by simp)).below (bl_alloc (bl_one _ _) _), (var2_new _ _ _ _ _ (by simp)).below (bl_one _ _), var2_new _ _ _ _ _ (by simp), by repeat (first | (with_reducible exact Below.refl _ _) | (with_reducible refine bl_alloc ?_ _) | (with_reducible refine Below.drew ?_) | (with_reducible refine below_drewN' ?_ _) | ((with_reducible refine bl_set ?_ ?_ _); (rotate_left; (dsimp only; omega)))), by simp⟩
  rintro W0 hS0
  have HS0 := Lib.hid hS0
  clear hS0
  go_cut [35] (fun tv W => tv = .bool (!(r1 && r2)) ∧ (fun W => Var W (w.heap.size) [.int .i64 a.x, .int .i64 a.y] ∧ Var W (w.heap.size + 1) [.int .i64 b.x, .int .i64 b.y] ∧ Var W (w.heap.size + 1 + 1) [.int .i64 c.x, .int .i64 c.y] ∧ Var W (w.heap.size + 1 + 1 + 1) [.int .i64 d.x, .int .i64 d.y] ∧ Var W (w.heap.size + 1 + 1 + 1 + 1) [.int .i64 t.x, .int .i64 t.y] ∧ Grew w 5 W) W)
  case first =>
    clear F1 F2 F3 F4 F5
    obtain ⟨c0, c1⟩ := HS0.out.1.two
    obtain ⟨c2, c3⟩ := HS0.out.2.1.two
    obtain ⟨c4, c5⟩ := HS0.out.2.2.1.two
    obtain ⟨c6, c7⟩ := HS0.out.2.2.2.1.two
    obtain ⟨c8, c9⟩ := HS0.out.2.2.2.2.1.two
    go_wp2_with fail
    refine (fits4 _ a b c d _ r1 HR1.out).mono ?_
    rintro e w1 ⟨rfl, hb1⟩
    try dsimp only
    replace HS0 : Hid ((fun W => Var W (w.heap.size) [.int .i64 a.x, .int .i64 a.y] ∧ Var W (w.heap.size + 1) [.int .i64 b.x, .int .i64 b.y] ∧ Var W (w.heap.size + 1 + 1) [.int .i64 c.x, .int .i64 c.y] ∧ Var W (w.heap.size + 1 + 1 + 1) [.int .i64 d.x, .int .i64 d.y] ∧ Var W (w.heap.size + 1 + 1 + 1 + 1) [.int .i64 t.x, .int .i64 t.y] ∧ Grew w 5 W) w1) := ⟨HS0.out.1.below (bl_trans (bl_one _ _) hb1), HS0.out.2.1.below (bl_trans (bl_one _ _) hb1), HS0.out.2.2.1.below (bl_trans (bl_one _ _) hb1), HS0.out.2.2.2.1.below (bl_trans (bl_one _ _) hb1), HS0.out.2.2.2.2.1.below (bl_trans (bl_one _ _) hb1), HS0.out.2.2.2.2.2.below (bl_trans (bl_one _ _) hb1)⟩
    clear c0 c1 c2 c3 c4 c5 c6 c7 c8 c9 hb1
    obtain ⟨c0, c1⟩ := HS0.out.1.two
    obtain ⟨c2, c3⟩ := HS0.out.2.1.two
    obtain ⟨c4, c5⟩ := HS0.out.2.2.1.two
    obtain ⟨c6, c7⟩ := HS0.out.2.2.2.1.two
    obtain ⟨c8, c9⟩ := HS0.out.2.2.2.2.1.two
    cases r1
    · go_wp2_with fail
      go_meet
      case rel => exact ⟨rfl, HS0.out⟩
    · go_wp2_with fail
      refine (fits1 _ t _ r2 HR2.out).mono ?_
      rintro e w1 ⟨rfl, hb1⟩
      try dsimp only
      go_wp2_with fail
      go_meet
      case rel => exact ⟨by cases r2 <;> rfl, ⟨HS0.out.1.below (bl_trans (bl_one _ _) hb1), HS0.out.2.1.below (bl_trans (bl_one _ _) hb1), HS0.out.2.2.1.below (bl_trans (bl_one _ _) hb1), HS0.out.2.2.2.1.below (bl_trans (bl_one _ _) hb1), HS0.out.2.2.2.2.1.below (bl_trans (bl_one _ _) hb1), HS0.out.2.2.2.2.2.below (bl_trans (bl_one _ _) hb1)⟩⟩
  case rest =>
  obtain ⟨rfl, hS0⟩ := hcut
  clear HS0
  have HS0 := Lib.hid hS0
  clear hS0
  cases hrr : (r1 && r2)
  case false =>
    have HX : Hid ((fitB a && fitB b && fitB c && fitB d && fitB t) = false) := by unfold Hid; rw [HR1.out, HR2.out]; exact hrr
    clear HR1 HR2 hrr
    generalize fitB a = fa at *
    generalize fitB b = fb at *
    generalize fitB c = fc at *
    generalize fitB d = fd at *
    generalize fitB t = ft at *
    obtain ⟨c0, c1⟩ := HS0.out.1.two
    obtain ⟨c2, c3⟩ := HS0.out.2.1.two
    obtain ⟨c4, c5⟩ := HS0.out.2.2.1.two
    obtain ⟨c6, c7⟩ := HS0.out.2.2.2.1.two
    obtain ⟨c8, c9⟩ := HS0.out.2.2.2.2.1.two
    go_wp2_with fail
    (with_reducible refine (F1.out _).mono ?_); rintro e w1 ⟨rfl, hb1⟩
    try dsimp only
    replace HS0 : Hid ((fun W => Var W (w.heap.size) [.int .i64 a.x, .int .i64 a.y] ∧ Var W (w.heap.size + 1) [.int .i64 b.x, .int .i64 b.y] ∧ Var W (w.heap.size + 1 + 1) [.int .i64 c.x, .int .i64 c.y] ∧ Var W (w.heap.size + 1 + 1 + 1) [.int .i64 d.x, .int .i64 d.y] ∧ Var W (w.heap.size + 1 + 1 + 1 + 1) [.int .i64 t.x, .int .i64 t.y] ∧ Grew w 5 W) w1) := ⟨HS0.out.1.below hb1, HS0.out.2.1.below hb1, HS0.out.2.2.1.below hb1, HS0.out.2.2.2.1.below hb1, HS0.out.2.2.2.2.1.below hb1, HS0.out.2.2.2.2.2.below hb1⟩
    clear c0 c1 c2 c3 c4 c5 c6 c7 c8 c9 hb1
    obtain ⟨c0, c1⟩ := HS0.out.1.two
    obtain ⟨c2, c3⟩ := HS0.out.2.1.two
    obtain ⟨c4, c5⟩ := HS0.out.2.2.1.two
    obtain ⟨c6, c7⟩ := HS0.out.2.2.2.1.two
    obtain ⟨c8, c9⟩ := HS0.out.2.2.2.2.1.two
    cases fa
    case false =>
      have HG := Lib.hid HS0.out.2.2.2.2.2
      clear F1 F2 F3 F4 F5
      go_wp2_with (first
        | (go_at_call 21; (with_reducible refine (known3_l _).mono ?_); rintro e w2 ⟨rfl, hb2⟩)
        | go_in)
      go_ret
      exact ⟨rfl, (HG.out.below hb2).hb⟩
    case true =>
    go_wp2_with fail
    (with_reducible refine (F2.out _).mono ?_); rintro e w1 ⟨rfl, hb1⟩
    try dsimp only
    replace HS0 : Hid ((fun W => Var W (w.heap.size) [.int .i64 a.x, .int .i64 a.y] ∧ Var W (w.heap.size + 1) [.int .i64 b.x, .int .i64 b.y] ∧ Var W (w.heap.size + 1 + 1) [.int .i64 c.x, .int .i64 c.y] ∧ Var W (w.heap.size + 1 + 1 + 1) [.int .i64 d.x, .int .i64 d.y] ∧ Var W (w.heap.size + 1 + 1 + 1 + 1) [.int .i64 t.x, .int .i64 t.y] ∧ Grew w 5 W) w1) := ⟨HS0.out.1.below hb1, HS0.out.2.1.below hb1, HS0.out.2.2.1.below hb1, HS0.out.2.2.2.1.below hb1, HS0.out.2.2.2.2.1.below hb1, HS0.out.2.2.2.2.2.below hb1⟩
    clear c0 c1 c2 c3 c4 c5 c6 c7 c8 c9 hb1
    obtain ⟨c0, c1⟩ := HS0.out.1.two
    obtain ⟨c2, c3⟩ := HS0.out.2.1.two
    obtain ⟨c4, c5⟩ := HS0.out.2.2.1.two
    obtain ⟨c6, c7⟩ := HS0.out.2.2.2.1.two
    obtain ⟨c8, c9⟩ := HS0.out.2.2.2.2.1.two
    cases fb
    case false =>
      have HG := Lib.hid HS0.out.2.2.2.2.2
      clear F1 F2 F3 F4 F5
      go_wp2_with (first
        | (go_at_call 21; (with_reducible refine (known3_l _).mono ?_); rintro e w2 ⟨rfl, hb2⟩)
        | go_in)
      go_ret
      exact ⟨rfl, (HG.out.below hb2).hb⟩
    case true =>
    go_wp2_with fail
    (with_reducible refine (F3.out _).mono ?_); rintro e w1 ⟨rfl, hb1⟩
    try dsimp only
    replace HS0 : Hid ((fun W => Var W (w.heap.size) [.int .i64 a.x, .int .i64 a.y] ∧ Var W (w.heap.size + 1) [.int .i64 b.x, .int .i64 b.y] ∧ Var W (w.heap.size + 1 + 1) [.int .i64 c.x, .int .i64 c.y] ∧ Var W (w.heap.size + 1 + 1 + 1) [.int .i64 d.x, .int .i64 d.y] ∧ Var W (w.heap.size + 1 + 1 + 1 + 1) [.int .i64 t.x, .int .i64 t.y] ∧ Grew w 5 W) w1) := ⟨HS0.out.1.below hb1, HS0.out.2.1.below hb1, HS0.out.2.2.1.below hb1, HS0.out.2.2.2.1.below hb1, HS0.out.2.2.2.2.1.below hb1, HS0.out.2.2.2.2.2.below hb1⟩
    clear c0 c1 c2 c3 c4 c5 c6 c7 c8 c9 hb1
    obtain ⟨c0, c1⟩ := HS0.out.1.two
    obtain ⟨c2, c3⟩ := HS0.out.2.1.two
    obtain ⟨c4, c5⟩ := HS0.out.2.2.1.two
    obtain ⟨c6, c7⟩ := HS0.out.2.2.2.1.two
    obtain ⟨c8, c9⟩ := HS0.out.2.2.2.2.1.two
    cases fc
    case false =>
      have HG := Lib.hid HS0.out.2.2.2.2.2
      clear F1 F2 F3 F4 F5
      go_wp2_with (first
        | (go_at_call 21; (with_reducible refine (known3_l _).mono ?_); rintro e w2 ⟨rfl, hb2⟩)
        | go_in)
      go_ret
      exact ⟨rfl, (HG.out.below hb2).hb⟩
    case true =>
    go_wp2_with fail
    (with_reducible refine (F4.out _).mono ?_); rintro e w1 ⟨rfl, hb1⟩
    try dsimp only
    replace HS0 : Hid ((fun W => Var W (w.heap.size) [.int .i64 a.x, .int .i64 a.y] ∧ Var W (w.heap.size + 1) [.int .i64 b.x, .int .i64 b.y] ∧ Var W (w.heap.size + 1 + 1) [.int .i64 c.x, .int .i64 c.y] ∧ Var W (w.heap.size + 1 + 1 + 1) [.int .i64 d.x, .int .i64 d.y] ∧ Var W (w.heap.size + 1 + 1 + 1 + 1) [.int .i64 t.x, .int .i64 t.y] ∧ Grew w 5 W) w1) := ⟨HS0.out.1.below hb1, HS0.out.2.1.below hb1, HS0.out.2.2.1.below hb1, HS0.out.2.2.2.1.below hb1, HS0.out.2.2.2.2.1.below hb1, HS0.out.2.2.2.2.2.below hb1⟩
    clear c0 c1 c2 c3 c4 c5 c6 c7 c8 c9 hb1
    obtain ⟨c0, c1⟩ := HS0.out.1.two
    obtain ⟨c2, c3⟩ := HS0.out.2.1.two
    obtain ⟨c4, c5⟩ := HS0.out.2.2.1.two
    obtain ⟨c6, c7⟩ := HS0.out.2.2.2.1.two
    obtain ⟨c8, c9⟩ := HS0.out.2.2.2.2.1.two
    cases fd
    case false =>
      have HG := Lib.hid HS0.out.2.2.2.2.2
      clear F1 F2 F3 F4 F5
      go_wp2_with (first
        | (go_at_call 21; (with_reducible refine (known3_l _).mono ?_); rintro e w2 ⟨rfl, hb2⟩)
        | go_in)
      go_ret
      exact ⟨rfl, (HG.out.below hb2).hb⟩
    case true =>
    go_wp2_with fail
    (with_reducible refine (F5.out _).mono ?_); rintro e w1 ⟨rfl, hb1⟩
    try dsimp only
    replace HS0 : Hid ((fun W => Var W (w.heap.size) [.int .i64 a.x, .int .i64 a.y] ∧ Var W (w.heap.size + 1) [.int .i64 b.x, .int .i64 b.y] ∧ Var W (w.heap.size + 1 + 1) [.int .i64 c.x, .int .i64 c.y] ∧ Var W (w.heap.size + 1 + 1 + 1) [.int .i64 d.x, .int .i64 d.y] ∧ Var W (w.heap.size + 1 + 1 + 1 + 1) [.int .i64 t.x, .int .i64 t.y] ∧ Grew w 5 W) w1) := ⟨HS0.out.1.below hb1, HS0.out.2.1.below hb1, HS0.out.2.2.1.below hb1, HS0.out.2.2.2.1.below hb1, HS0.out.2.2.2.2.1.below hb1, HS0.out.2.2.2.2.2.below hb1⟩
    clear c0 c1 c2 c3 c4 c5 c6 c7 c8 c9 hb1
    obtain ⟨c0, c1⟩ := HS0.out.1.two
    obtain ⟨c2, c3⟩ := HS0.out.2.1.two
    obtain ⟨c4, c5⟩ := HS0.out.2.2.1.two
    obtain ⟨c6, c7⟩ := HS0.out.2.2.2.1.two
    obtain ⟨c8, c9⟩ := HS0.out.2.2.2.2.1.two
    cases ft
    case false =>
      have HG := Lib.hid HS0.out.2.2.2.2.2
      clear F1 F2 F3 F4 F5
      go_wp2_with (first
        | (go_at_call 21; (with_reducible refine (known3_l _).mono ?_); rintro e w2 ⟨rfl, hb2⟩)
        | go_in)
      go_ret
      exact ⟨rfl, (HG.out.below hb2).hb⟩
    case true =>
    have := HX.out
    simp at this
  case true =>
  obtain ⟨rfl, rfl⟩ : r1 = true ∧ r2 = true := by simpa using hrr
  obtain ⟨fa, fb, fc, fd⟩ := and4 HR1.out
  have ft := HR2.out
  clear HR1 HR2 hrr F1 F2 F3 F4 F5
  have M1 := Lib.hid (fun W => moved3_l a t fa ft W)
  have M2 := Lib.hid (fun W => moved3_l b t fb ft W)
  have M3 := Lib.hid (fun W => moved3_l c t fc ft W)
  have M4 := Lib.hid (fun W => moved3_l d t fd ft W)
  have T1 := Lib.hid (fun W => turned3_l a fa W)
  have T2 := Lib.hid (fun W => turned3_l b fb W)
  have T3 := Lib.hid (fun W => turned3_l c fc W)
  have T4 := Lib.hid (fun W => turned3_l d fd W)
  have N1 := Lib.hid (fun W => mirrored3_l a fa W)
  have N2 := Lib.hid (fun W => mirrored3_l b fb W)
  have N3 := Lib.hid (fun W => mirrored3_l c fc W)
  have N4 := Lib.hid (fun W => mirrored3_l d fd W)
  have CO := Lib.hid (fun W => orient_l a b c W)
  have CC := Lib.hid (fun W => inCircle_l a b c d W)
  have CD := Lib.hid (fun W => inDisc_l a b c W)
  have CS := Lib.hid (fun W => skinny_l a b c W)
  have TP1 := Lib.hid (fun W => orient_at _ _ _ _ (orient_tn a b c) W)
  have TP2 := Lib.hid (fun W => inCircle_at _ _ _ _ _ (circ_tn a b c d) W)
  have TP3 := Lib.hid (fun W => inDisc_at _ _ _ _ (disc_tn a b c) W)
  have TP4 := Lib.hid (fun W => skinny_at _ _ _ _ (skinny_tn a b c) W)
  have NP1 := Lib.hid (fun W => orient_at _ _ _ _ (orient_mi a b c) W)
  have NP2 := Lib.hid (fun W => inCircle_at _ _ _ _ _ (circ_mi a b c d) W)
  have NP3 := Lib.hid (fun W => inDisc_at _ _ _ _ (disc_mi a b c) W)
  have NP4 := Lib.hid (fun W => skinny_at _ _ _ _ (skinny_mi a b c) W)
  have MP : Hid ((fitB (mvP a t) && fitB (mvP b t) && fitB (mvP c t) && fitB (mvP d t)) = true →
      (∀ W, Calls Try.prog 19 #[.agg #[.int .i64 (mvP a t).x, .int .i64 (mvP a t).y], .agg #[.int .i64 (mvP b t).x, .int .i64 (mvP b t).y], .agg #[.int .i64 (mvP c t).x, .int .i64 (mvP c t).y]] W (Gives (.int .i64 (orientZ a b c)) W)) ∧
      (∀ W, Calls Try.prog 22 #[.agg #[.int .i64 (mvP a t).x, .int .i64 (mvP a t).y], .agg #[.int .i64 (mvP b t).x, .int .i64 (mvP b t).y], .agg #[.int .i64 (mvP c t).x, .int .i64 (mvP c t).y], .agg #[.int .i64 (mvP d t).x, .int .i64 (mvP d t).y]] W (Gives (.int .i64 (circZ a b c d)) W)) ∧
      (∀ W, Calls Try.prog 24 #[.agg #[.int .i64 (mvP a t).x, .int .i64 (mvP a t).y], .agg #[.int .i64 (mvP b t).x, .int .i64 (mvP b t).y], .agg #[.int .i64 (mvP c t).x, .int .i64 (mvP c t).y]] W (Gives (.bool (discB a b c)) W)) ∧
      (∀ W, Calls Try.prog 28 #[.agg #[.int .i64 (mvP a t).x, .int .i64 (mvP a t).y], .agg #[.int .i64 (mvP b t).x, .int .i64 (mvP b t).y], .agg #[.int .i64 (mvP c t).x, .int .i64 (mvP c t).y]] W (Gives (.bool (skinnyB a b c)) W))) := fun h => by
    obtain ⟨ga, gb, gc, gd⟩ := and4 h
    exact ⟨fun W => orient_at _ _ _ _ (orient_mv fa fb fc ga gb gc) W, fun W => inCircle_at _ _ _ _ _ (circ_mv fa fb fc fd ga gb gc gd) W, fun W => inDisc_at _ _ _ _ (disc_mv fa fb fc ga gb gc) W, fun W => skinny_at _ _ _ _ (skinny_mv fa fb fc ga gb gc) W⟩
  clear fa fb fc fd ft
  have hv := orient_vals a b c
  generalize mvP a t = p at *
  generalize mvP b t = q at *
  generalize mvP c t = r at *
  generalize mvP d t = s at *
  generalize tnP a = p1 at *
  generalize tnP b = q1 at *
  generalize tnP c = r1 at *
  generalize tnP d = s1 at *
  generalize miP a = p2 at *
  generalize miP b = q2 at *
  generalize miP c = r2 at *
  generalize miP d = s2 at *
  generalize orientZ a b c = zo at *
  generalize circZ a b c d = zc at *
  generalize discB a b c = zd at *
  generalize skinnyB a b c = zs at *
  have e1 : (zo == zo) = true := by simp
  have e2 : (zc == zc) = true := by simp
  have e3 : (zd == zd) = true := by simp
  have e4 : (zs == zs) = true := by simp
  have e5 : (-zo == -zo) = true := by simp
  have n1 : IntKind.i64.wrap (-zo) = -zo := IntWalk.i64_in _ (by omega)
  have n2 : wrap64 (-zo) = -zo := by unfold wrap64; omega
  clear hv
  rename_i K0 aK0 K aK
  refine aK _ _ ?_
  clear aK K
  repeat revert ‹Value›
  revert HS0
  revert n2
  revert n1
  revert e5
  revert e4
  revert e3
  revert e2
  revert e1
  revert CS
  revert CD
  revert CC
  revert CO
  revert MP
  revert NP4
  revert NP3
  revert NP2
  revert NP1
  revert TP4
  revert TP3
  revert TP2
  revert TP1
  revert N4
  revert N3
  revert N2
  revert N1
  revert T4
  revert T3
  revert T2
  revert T1
  revert M4
  revert M3
  revert M2
  revert M1
  revert wc
  revert aK0
  revert K0
  revert zs
  revert zd
  revert zc
  revert zo
  revert s2
  revert r2
  revert q2
  revert p2
  revert s1
  revert r1
  revert q1
  revert p1
  revert s
  revert r
  revert q
  revert p
  exact hP.out⟩

set_option maxHeartbeats 16000000 in
set_option maxRecDepth 100000 in
noncomputable def pmB (a b c d t : Pt) (w : World) : {P : Prop // Tail P → (pmA a b c d t w).val} := ⟨_, fun hP => by
  intro p q r s p1 q1 r1 s1 p2 q2 r2 s2 zo zc zd zs K0 aK0 wc M1 M2 M3 M4 T1 T2 T3 T4 N1 N2 N3 N4 TP1 TP2 TP3 TP4 NP1 NP2 NP3 NP4 MP CO CC CD CS e1 e2 e3 e4 e5 n1 n2 HS0
  intros
  go_upto_region 3 with (fail)
  go_cut [11] (fun pv W => ∃ g11 : Nat, pv = .pointer (some ⟨g11, 0, none⟩) ∧ Var W (g11) [.int .i64 p.x, .int .i64 p.y] ∧ (fun W => Var W (w.heap.size) [.int .i64 a.x, .int .i64 a.y] ∧ Var W (w.heap.size + 1) [.int .i64 b.x, .int .i64 b.y] ∧ Var W (w.heap.size + 1 + 1) [.int .i64 c.x, .int .i64 c.y] ∧ Var W (w.heap.size + 1 + 1 + 1) [.int .i64 d.x, .int .i64 d.y] ∧ Var W (w.heap.size + 1 + 1 + 1 + 1) [.int .i64 t.x, .int .i64 t.y] ∧ Grew w 5 W) W)
  case first =>
    obtain ⟨c0, c1⟩ := HS0.out.1.two
    obtain ⟨c2, c3⟩ := HS0.out.2.1.two
    obtain ⟨c4, c5⟩ := HS0.out.2.2.1.two
    obtain ⟨c6, c7⟩ := HS0.out.2.2.2.1.two
    obtain ⟨c8, c9⟩ := HS0.out.2.2.2.2.1.two
    go_wp2_with fail
    (with_reducible refine (M1.out _).mono ?_); rintro e w1 ⟨rfl, hb1⟩
    try dsimp only
    go_wp2_with fail
    go_meet
    case rel => exact ⟨_, rfl, var2_new _ _ _ _ _ rfl, ⟨HS0.out.1.below (bl_trans hb1 (bl_one _ _)), HS0.out.2.1.below (bl_trans hb1 (bl_one _ _)), HS0.out.2.2.1.below (bl_trans hb1 (bl_one _ _)), HS0.out.2.2.2.1.below (bl_trans hb1 (bl_one _ _)), HS0.out.2.2.2.2.1.below (bl_trans hb1 (bl_one _ _)), HS0.out.2.2.2.2.2.below (bl_trans hb1 (bl_one _ _))⟩⟩
  case rest =>
  obtain ⟨g11, rfl, vn, hS0⟩ := hcut
  clear HS0
  have HS0 : Hid ((fun W => Var W (w.heap.size) [.int .i64 a.x, .int .i64 a.y] ∧ Var W (w.heap.size + 1) [.int .i64 b.x, .int .i64 b.y] ∧ Var W (w.heap.size + 1 + 1) [.int .i64 c.x, .int .i64 c.y] ∧ Var W (w.heap.size + 1 + 1 + 1) [.int .i64 d.x, .int .i64 d.y] ∧ Var W (w.heap.size + 1 + 1 + 1 + 1) [.int .i64 t.x, .int .i64 t.y] ∧ Var W (g11) [.int .i64 p.x, .int .i64 p.y] ∧ Grew w 5 W) _) := ⟨hS0.1, hS0.2.1, hS0.2.2.1, hS0.2.2.2.1, hS0.2.2.2.2.1, vn, hS0.2.2.2.2.2⟩
  clear hS0 vn
  go_upto_region 4 with (fail)
  go_cut [12] (fun pv W => ∃ g12 : Nat, pv = .pointer (some ⟨g12, 0, none⟩) ∧ Var W (g12) [.int .i64 q.x, .int .i64 q.y] ∧ (fun W => Var W (w.heap.size) [.int .i64 a.x, .int .i64 a.y] ∧ Var W (w.heap.size + 1) [.int .i64 b.x, .int .i64 b.y] ∧ Var W (w.heap.size + 1 + 1) [.int .i64 c.x, .int .i64 c.y] ∧ Var W (w.heap.size + 1 + 1 + 1) [.int .i64 d.x, .int .i64 d.y] ∧ Var W (w.heap.size + 1 + 1 + 1 + 1) [.int .i64 t.x, .int .i64 t.y] ∧ Var W (g11) [.int .i64 p.x, .int .i64 p.y] ∧ Grew w 5 W) W)
  case first =>
    obtain ⟨c0, c1⟩ := HS0.out.1.two
    obtain ⟨c2, c3⟩ := HS0.out.2.1.two
    obtain ⟨c4, c5⟩ := HS0.out.2.2.1.two
    obtain ⟨c6, c7⟩ := HS0.out.2.2.2.1.two
    obtain ⟨c8, c9⟩ := HS0.out.2.2.2.2.1.two
    obtain ⟨c10, c11⟩ := HS0.out.2.2.2.2.2.1.two
    go_wp2_with fail
    (with_reducible refine (M2.out _).mono ?_); rintro e w1 ⟨rfl, hb1⟩
    try dsimp only
    go_wp2_with fail
    go_meet
    case rel => exact ⟨_, rfl, var2_new _ _ _ _ _ rfl, ⟨HS0.out.1.below (bl_trans hb1 (bl_one _ _)), HS0.out.2.1.below (bl_trans hb1 (bl_one _ _)), HS0.out.2.2.1.below (bl_trans hb1 (bl_one _ _)), HS0.out.2.2.2.1.below (bl_trans hb1 (bl_one _ _)), HS0.out.2.2.2.2.1.below (bl_trans hb1 (bl_one _ _)), HS0.out.2.2.2.2.2.1.below (bl_trans hb1 (bl_one _ _)), HS0.out.2.2.2.2.2.2.below (bl_trans hb1 (bl_one _ _))⟩⟩
  case rest =>
  obtain ⟨g12, rfl, vn, hS0⟩ := hcut
  clear HS0
  have HS0 : Hid ((fun W => Var W (w.heap.size) [.int .i64 a.x, .int .i64 a.y] ∧ Var W (w.heap.size + 1) [.int .i64 b.x, .int .i64 b.y] ∧ Var W (w.heap.size + 1 + 1) [.int .i64 c.x, .int .i64 c.y] ∧ Var W (w.heap.size + 1 + 1 + 1) [.int .i64 d.x, .int .i64 d.y] ∧ Var W (w.heap.size + 1 + 1 + 1 + 1) [.int .i64 t.x, .int .i64 t.y] ∧ Var W (g11) [.int .i64 p.x, .int .i64 p.y] ∧ Var W (g12) [.int .i64 q.x, .int .i64 q.y] ∧ Grew w 5 W) _) := ⟨hS0.1, hS0.2.1, hS0.2.2.1, hS0.2.2.2.1, hS0.2.2.2.2.1, hS0.2.2.2.2.2.1, vn, hS0.2.2.2.2.2.2⟩
  clear hS0 vn
  go_upto_region 5 with (fail)
  go_cut [13] (fun pv W => ∃ g13 : Nat, pv = .pointer (some ⟨g13, 0, none⟩) ∧ Var W (g13) [.int .i64 r.x, .int .i64 r.y] ∧ (fun W => Var W (w.heap.size) [.int .i64 a.x, .int .i64 a.y] ∧ Var W (w.heap.size + 1) [.int .i64 b.x, .int .i64 b.y] ∧ Var W (w.heap.size + 1 + 1) [.int .i64 c.x, .int .i64 c.y] ∧ Var W (w.heap.size + 1 + 1 + 1) [.int .i64 d.x, .int .i64 d.y] ∧ Var W (w.heap.size + 1 + 1 + 1 + 1) [.int .i64 t.x, .int .i64 t.y] ∧ Var W (g11) [.int .i64 p.x, .int .i64 p.y] ∧ Var W (g12) [.int .i64 q.x, .int .i64 q.y] ∧ Grew w 5 W) W)
  case first =>
    obtain ⟨c0, c1⟩ := HS0.out.1.two
    obtain ⟨c2, c3⟩ := HS0.out.2.1.two
    obtain ⟨c4, c5⟩ := HS0.out.2.2.1.two
    obtain ⟨c6, c7⟩ := HS0.out.2.2.2.1.two
    obtain ⟨c8, c9⟩ := HS0.out.2.2.2.2.1.two
    obtain ⟨c10, c11⟩ := HS0.out.2.2.2.2.2.1.two
    obtain ⟨c12, c13⟩ := HS0.out.2.2.2.2.2.2.1.two
    go_wp2_with fail
    (with_reducible refine (M3.out _).mono ?_); rintro e w1 ⟨rfl, hb1⟩
    try dsimp only
    go_wp2_with fail
    go_meet
    case rel => exact ⟨_, rfl, var2_new _ _ _ _ _ rfl, ⟨HS0.out.1.below (bl_trans hb1 (bl_one _ _)), HS0.out.2.1.below (bl_trans hb1 (bl_one _ _)), HS0.out.2.2.1.below (bl_trans hb1 (bl_one _ _)), HS0.out.2.2.2.1.below (bl_trans hb1 (bl_one _ _)), HS0.out.2.2.2.2.1.below (bl_trans hb1 (bl_one _ _)), HS0.out.2.2.2.2.2.1.below (bl_trans hb1 (bl_one _ _)), HS0.out.2.2.2.2.2.2.1.below (bl_trans hb1 (bl_one _ _)), HS0.out.2.2.2.2.2.2.2.below (bl_trans hb1 (bl_one _ _))⟩⟩
  case rest =>
  obtain ⟨g13, rfl, vn, hS0⟩ := hcut
  clear HS0
  have HS0 : Hid ((fun W => Var W (w.heap.size) [.int .i64 a.x, .int .i64 a.y] ∧ Var W (w.heap.size + 1) [.int .i64 b.x, .int .i64 b.y] ∧ Var W (w.heap.size + 1 + 1) [.int .i64 c.x, .int .i64 c.y] ∧ Var W (w.heap.size + 1 + 1 + 1) [.int .i64 d.x, .int .i64 d.y] ∧ Var W (w.heap.size + 1 + 1 + 1 + 1) [.int .i64 t.x, .int .i64 t.y] ∧ Var W (g11) [.int .i64 p.x, .int .i64 p.y] ∧ Var W (g12) [.int .i64 q.x, .int .i64 q.y] ∧ Var W (g13) [.int .i64 r.x, .int .i64 r.y] ∧ Grew w 5 W) _) := ⟨hS0.1, hS0.2.1, hS0.2.2.1, hS0.2.2.2.1, hS0.2.2.2.2.1, hS0.2.2.2.2.2.1, hS0.2.2.2.2.2.2.1, vn, hS0.2.2.2.2.2.2.2⟩
  clear hS0 vn
  go_upto_region 6 with (fail)
  go_cut [14] (fun pv W => ∃ g14 : Nat, pv = .pointer (some ⟨g14, 0, none⟩) ∧ Var W (g14) [.int .i64 s.x, .int .i64 s.y] ∧ (fun W => Var W (w.heap.size) [.int .i64 a.x, .int .i64 a.y] ∧ Var W (w.heap.size + 1) [.int .i64 b.x, .int .i64 b.y] ∧ Var W (w.heap.size + 1 + 1) [.int .i64 c.x, .int .i64 c.y] ∧ Var W (w.heap.size + 1 + 1 + 1) [.int .i64 d.x, .int .i64 d.y] ∧ Var W (w.heap.size + 1 + 1 + 1 + 1) [.int .i64 t.x, .int .i64 t.y] ∧ Var W (g11) [.int .i64 p.x, .int .i64 p.y] ∧ Var W (g12) [.int .i64 q.x, .int .i64 q.y] ∧ Var W (g13) [.int .i64 r.x, .int .i64 r.y] ∧ Grew w 5 W) W)
  case first =>
    obtain ⟨c0, c1⟩ := HS0.out.1.two
    obtain ⟨c2, c3⟩ := HS0.out.2.1.two
    obtain ⟨c4, c5⟩ := HS0.out.2.2.1.two
    obtain ⟨c6, c7⟩ := HS0.out.2.2.2.1.two
    obtain ⟨c8, c9⟩ := HS0.out.2.2.2.2.1.two
    obtain ⟨c10, c11⟩ := HS0.out.2.2.2.2.2.1.two
    obtain ⟨c12, c13⟩ := HS0.out.2.2.2.2.2.2.1.two
    obtain ⟨c14, c15⟩ := HS0.out.2.2.2.2.2.2.2.1.two
    go_wp2_with fail
    (with_reducible refine (M4.out _).mono ?_); rintro e w1 ⟨rfl, hb1⟩
    try dsimp only
    go_wp2_with fail
    go_meet
    case rel => exact ⟨_, rfl, var2_new _ _ _ _ _ rfl, ⟨HS0.out.1.below (bl_trans hb1 (bl_one _ _)), HS0.out.2.1.below (bl_trans hb1 (bl_one _ _)), HS0.out.2.2.1.below (bl_trans hb1 (bl_one _ _)), HS0.out.2.2.2.1.below (bl_trans hb1 (bl_one _ _)), HS0.out.2.2.2.2.1.below (bl_trans hb1 (bl_one _ _)), HS0.out.2.2.2.2.2.1.below (bl_trans hb1 (bl_one _ _)), HS0.out.2.2.2.2.2.2.1.below (bl_trans hb1 (bl_one _ _)), HS0.out.2.2.2.2.2.2.2.1.below (bl_trans hb1 (bl_one _ _)), HS0.out.2.2.2.2.2.2.2.2.below (bl_trans hb1 (bl_one _ _))⟩⟩
  case rest =>
  obtain ⟨g14, rfl, vn, hS0⟩ := hcut
  clear HS0
  have HS0 : Hid ((fun W => Var W (w.heap.size) [.int .i64 a.x, .int .i64 a.y] ∧ Var W (w.heap.size + 1) [.int .i64 b.x, .int .i64 b.y] ∧ Var W (w.heap.size + 1 + 1) [.int .i64 c.x, .int .i64 c.y] ∧ Var W (w.heap.size + 1 + 1 + 1) [.int .i64 d.x, .int .i64 d.y] ∧ Var W (w.heap.size + 1 + 1 + 1 + 1) [.int .i64 t.x, .int .i64 t.y] ∧ Var W (g11) [.int .i64 p.x, .int .i64 p.y] ∧ Var W (g12) [.int .i64 q.x, .int .i64 q.y] ∧ Var W (g13) [.int .i64 r.x, .int .i64 r.y] ∧ Var W (g14) [.int .i64 s.x, .int .i64 s.y] ∧ Grew w 5 W) _) := ⟨hS0.1, hS0.2.1, hS0.2.2.1, hS0.2.2.2.1, hS0.2.2.2.2.1, hS0.2.2.2.2.2.1, hS0.2.2.2.2.2.2.1, hS0.2.2.2.2.2.2.2.1, vn, hS0.2.2.2.2.2.2.2.2⟩
  clear hS0 vn
  clear M1 M2 M3 M4
  rename_i K aK
  refine aK _ _ ?_
  clear aK K
  repeat revert ‹Value›
  revert HS0
  revert n2
  revert n1
  revert e5
  revert e4
  revert e3
  revert e2
  revert e1
  revert CS
  revert CD
  revert CC
  revert CO
  revert MP
  revert NP4
  revert NP3
  revert NP2
  revert NP1
  revert TP4
  revert TP3
  revert TP2
  revert TP1
  revert N4
  revert N3
  revert N2
  revert N1
  revert T4
  revert T3
  revert T2
  revert T1
  revert wc
  revert g14
  revert g13
  revert g12
  revert g11
  revert zs
  revert zd
  revert zc
  revert zo
  revert s2
  revert r2
  revert q2
  revert p2
  revert s1
  revert r1
  revert q1
  revert p1
  revert s
  revert r
  revert q
  revert p
  exact hP.out⟩
end Go.Proofs.Ytojfggnimmaemaa
