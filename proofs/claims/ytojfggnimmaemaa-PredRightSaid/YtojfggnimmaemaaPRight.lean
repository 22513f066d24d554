/-
  The walk of the law PredRight.
-/
import Derived.Test.YtojfggnimmaemaaKnown3
import Derived.Test.YtojfggnimmaemaaPredMath2
import Derived.Test.YtojfggnimmaemaaConvexes
namespace Go.Proofs.Ytojfggnimmaemaa
open Go.RowKit

def raBad (a t : Pt) : Bool := (!(fitB a && fitB t)) || (decide (1000000 < t.x)) || (decide (t.x < -1000000)) || (decide (1000000 < t.y)) || (decide (t.y < -1000000)) || (decide (t = ⟨0, 0⟩)) || (decide (2147483648 < a.x)) || (decide (a.x < -2147483648)) || (decide (2147483648 < a.y)) || (decide (a.y < -2147483648))
theorem ra_ok {a t : Pt} (h : raBad a t = false) {n : Int} (h2 : n % 2 = 0) (h0 : 2 ≤ n) (h9 : n ≤ 40) : RightA a t n := by
  unfold raBad at h
  simp only [Bool.or_eq_false_iff, decide_eq_false_iff_not] at h
  obtain ⟨⟨⟨⟨⟨⟨⟨⟨⟨-, b1⟩, b2⟩, b3⟩, b4⟩, b5⟩, b6⟩, b7⟩, b8⟩, b9⟩ := h
  exact ⟨by omega, by omega, by omega, by omega, b5, h2, h0, h9⟩
theorem dec2' (p : Prop) [Decidable p] : decide p = true ∨ decide p = false := by cases decide p <;> simp
theorem wrapI {x y : Int} (h : x = y) (h0 : -9223372036854775808 ≤ x ∧ x ≤ 9223372036854775807) : IntKind.i64.wrap x = y := by rw [IntWalk.i64_in _ h0]; exact h

set_option maxHeartbeats 16000000 in
set_option maxRecDepth 100000 in
theorem pright_l (a t : Pt) (k : Int) (hk : 0 ≤ k ∧ k ≤ 255) (w : World) : Calls Try.prog 11 #[.agg #[.int .i64 a.x, .int .i64 a.y], .agg #[.int .i64 t.x, .int .i64 t.y], .int .u8 k] w (Gives (.bool true) w) := by
  obtain ⟨bad, hbad⟩ : ∃ b, raBad a t = b := ⟨_, rfl⟩
  obtain ⟨r, hr⟩ : ∃ x, (fitB a && fitB t) = x := ⟨_, rfl⟩
  have HR := Lib.hid hr
  have hB : bad = ((!(r)) || (decide (1000000 < t.x)) || (decide (t.x < -1000000)) || (decide (1000000 < t.y)) || (decide (t.y < -1000000)) || (decide (t = ⟨0, 0⟩)) || (decide (2147483648 < a.x)) || (decide (a.x < -2147483648)) || (decide (2147483648 < a.y)) || (decide (a.y < -2147483648))) := by rw [← hbad]; unfold raBad; rw [hr]
  have HB := Lib.hid hB
  have HOK : Hid (bad = false → ∀ n : Int, n % 2 = 0 → 2 ≤ n → n ≤ 40 → RightA a t n) := fun h n h2 h0 h9 => ra_ok (hbad.trans h) h2 h0 h9
  have E0 := eqPt t ⟨0, 0⟩
  have HK := Lib.hid hk
  clear hbad hr hB hk
  go_enter Try.func11, Try.ntmps11
  go_upto_region 1 with (fail)
  refine wp_abs (fun W => Var W (w.heap.size) [.int .i64 a.x, .int .i64 a.y] ∧ Var W (w.heap.size + 1) [.int .i64 t.x, .int .i64 t.y] ∧ Grew w 2 W) ?_ ?_
  · exact ⟨(var2_new _ _ _ _ _ rfl).below (bl_one _ _), var2_new _ _ _ _ _ (by simp), by repeat (first | (with_reducible exact Below.refl _ _) | (with_reducible refine bl_alloc ?_ _) | (with_reducible refine Below.drew ?_) | (with_reducible refine below_drewN' ?_ _) | ((with_reducible refine bl_set ?_ ?_ _); (rotate_left; (dsimp only; omega)))), by simp⟩
  rintro W0 hS0
  have HS0 := Lib.hid hS0
  clear hS0
  go_cut [64] (fun tv W => tv = .bool bad ∧ (fun W => Var W (w.heap.size) [.int .i64 a.x, .int .i64 a.y] ∧ Var W (w.heap.size + 1) [.int .i64 t.x, .int .i64 t.y] ∧ Grew w 2 W) W)
  case first =>
    clear HOK HK
    obtain ⟨c0, c1⟩ := HS0.out.1.two
    obtain ⟨c2, c3⟩ := HS0.out.2.1.two
    go_wp2_with fail
    refine (fits2 _ a t _ r HR.out).mono ?_
    rintro e w1 ⟨rfl, hb1⟩
    replace HS0 : Hid ((fun W => Var W (w.heap.size) [.int .i64 a.x, .int .i64 a.y] ∧ Var W (w.heap.size + 1) [.int .i64 t.x, .int .i64 t.y] ∧ Grew w 2 W) w1) := ⟨HS0.out.1.below (bl_trans (bl_one _ _) hb1), HS0.out.2.1.below (bl_trans (bl_one _ _) hb1), HS0.out.2.2.below (bl_trans (bl_one _ _) hb1)⟩
    clear c0 c1 c2 c3 hb1 HR
    obtain ⟨c0, c1⟩ := HS0.out.1.two
    obtain ⟨c2, c3⟩ := HS0.out.2.1.two
    cases r
    case false =>
      clear E0
      go_wp2_with fail
      go_meet
      case rel => exact ⟨by rw [HB.out]; simp, HS0.out⟩
    case true =>
    rcases dec2' (1000000 < t.x) with h0 | h0
    case inl =>
      rw [h0] at HB
      go_wp2_with fail
      go_meet
      case rel => exact ⟨by rw [HB.out]; simp, HS0.out⟩
    case inr =>
    rw [h0] at HB
    rcases dec2' (t.x < -1000000) with h1 | h1
    case inl =>
      rw [h1] at HB
      go_wp2_with fail
      go_meet
      case rel => exact ⟨by rw [HB.out]; simp, HS0.out⟩
    case inr =>
    rw [h1] at HB
    rcases dec2' (1000000 < t.y) with h2 | h2
    case inl =>
      rw [h2] at HB
      go_wp2_with fail
      go_meet
      case rel => exact ⟨by rw [HB.out]; simp, HS0.out⟩
    case inr =>
    rw [h2] at HB
    rcases dec2' (t.y < -1000000) with h3 | h3
    case inl =>
      rw [h3] at HB
      go_wp2_with fail
      go_meet
      case rel => exact ⟨by rw [HB.out]; simp, HS0.out⟩
    case inr =>
    rw [h3] at HB
    by_cases h4 : t = ⟨0, 0⟩
    case pos =>
      rw [decide_eq_true h4] at E0
      rw [decide_eq_true h4] at HB
      clear h4
      go_wp2_with fail
      go_meet
      case rel => exact ⟨by rw [HB.out]; simp, HS0.out⟩
    case neg =>
    rw [decide_eq_false h4] at E0
    rw [decide_eq_false h4] at HB
    clear h4
    rcases dec2' (2147483648 < a.x) with h5 | h5
    case inl =>
      rw [h5] at HB
      go_wp2_with fail
      go_meet
      case rel => exact ⟨by rw [HB.out]; simp, HS0.out⟩
    case inr =>
    rw [h5] at HB
    rcases dec2' (a.x < -2147483648) with h6 | h6
    case inl =>
      rw [h6] at HB
      go_wp2_with fail
      go_meet
      case rel => exact ⟨by rw [HB.out]; simp, HS0.out⟩
    case inr =>
    rw [h6] at HB
    rcases dec2' (2147483648 < a.y) with h7 | h7
    case inl =>
      rw [h7] at HB
      go_wp2_with fail
      go_meet
      case rel => exact ⟨by rw [HB.out]; simp, HS0.out⟩
    case inr =>
    rw [h7] at HB
    rcases dec2' (a.y < -2147483648) with h8 | h8
    case inl =>
      rw [h8] at HB
      go_wp2_with fail
      go_meet
      case rel => exact ⟨by rw [HB.out]; simp, HS0.out⟩
    case inr =>
    rw [h8] at HB
    go_wp2_with fail
    go_meet
    case rel => exact ⟨by rw [HB.out]; simp, HS0.out⟩
  case rest =>
  obtain ⟨rfl, hS0⟩ := hcut
  clear HS0 HB HR E0
  have HS0 := Lib.hid hS0
  clear hS0
  cases bad
  case true =>
    clear HOK HK
    have HG := Lib.hid HS0.out.2.2
    clear HS0
    go_wp2_with (first
      | (go_at_call 21; (with_reducible refine (known3_l _).mono ?_); rintro e w2 ⟨rfl, hb2⟩)
      | go_in)
    go_ret
    exact ⟨rfl, (HG.out.below hb2).hb⟩
  case false =>
  have hk := HK.out
  obtain ⟨n, hn, hnn, HA⟩ : ∃ n : Int, 2 * (1 + Int.tmod k 20) = n ∧ (0 ≤ Int.tmod k 20 ∧ Int.tmod k 20 ≤ 19) ∧ RightA a t n := by
    have e : Int.tmod k 20 = k % 20 := Int.tmod_eq_emod_of_nonneg hk.1
    have hm : 0 ≤ k % 20 ∧ k % 20 < 20 := ⟨Int.emod_nonneg _ (by decide), Int.emod_lt_of_pos _ (by decide)⟩
    exact ⟨_, rfl, by omega, HOK.out rfl _ (by omega) (by omega) (by omega)⟩
  clear HOK HK hk
  have HA := Lib.hid HA
  go_upto_region 3 with (fail)
  go_cut [7] (fun nv W => nv = .int .i64 n ∧ (fun W => Var W (w.heap.size) [.int .i64 a.x, .int .i64 a.y] ∧ Var W (w.heap.size + 1) [.int .i64 t.x, .int .i64 t.y] ∧ Grew w 2 W) W)
  case first =>
    have u1 : IntKind.u8.wrap (Int.tmod k 20) = Int.tmod k 20 := by rw [IntKind.wrap_u8]; omega
    have u2 : IntKind.i64.wrap (Int.tmod k 20) = Int.tmod k 20 := IntWalk.i64_in _ (by omega)
    have u3 : IntKind.i64.wrap (1 + Int.tmod k 20) = 1 + Int.tmod k 20 := IntWalk.i64_in _ (by omega)
    have u4 : IntKind.i64.wrap (2 * (1 + Int.tmod k 20)) = n := wrapI hn (by omega)
    go_wp2_with fail
    go_meet
    case rel => exact ⟨rfl, HS0.out⟩
  case rest =>
  obtain ⟨rfl, hS0⟩ := hcut
  clear HS0 hn hnn
  have HS0 := Lib.hid hS0
  clear hS0
  have Tx := HA.out.tx
  have Ty := HA.out.ty
  have Ax := HA.out.ax
  have Ay := HA.out.ay
  have Nx := mul_b HA.out.n0 HA.out.n9 HA.out.tx
  have Ny := mul_b HA.out.n0 HA.out.n9 HA.out.ty
  have b1 : IntKind.i64.wrap (2 * t.x) = 2 * t.x := IntWalk.i64_in _ (by omega)
  have b2 : IntKind.i64.wrap (2 * t.y) = 2 * t.y := IntWalk.i64_in _ (by omega)
  have b3 : IntKind.i64.wrap (a.x + 2 * t.x) = (raB a t).x := wrapI rfl (by omega)
  have b4 : IntKind.i64.wrap (a.y + 2 * t.y) = (raB a t).y := wrapI rfl (by omega)
  have c1 : IntKind.i64.wrap (n * t.y) = n * t.y := IntWalk.i64_in _ (by omega)
  have c2 : IntKind.i64.wrap (n * t.x) = n * t.x := IntWalk.i64_in _ (by omega)
  have c3 : IntKind.i64.wrap (a.x - n * t.y) = (raC a t n).x := wrapI rfl (by omega)
  have c4 : IntKind.i64.wrap (a.y + n * t.x) = (raC a t n).y := wrapI rfl (by omega)
  have f1 : IntKind.i64.wrap (a.x - t.x) = (raF a t).x := wrapI rfl (by omega)
  have f2 : IntKind.i64.wrap (a.y - t.y) = (raF a t).y := wrapI rfl (by omega)
  have HW := Lib.hid (And.intro (And.intro (And.intro b1 b2) (And.intro b3 b4)) (And.intro (And.intro (And.intro c1 c2) (And.intro c3 c4)) (And.intro f1 f2)))
  have Q1 := Lib.hid (fun W => centre_at a (raB a t) (raC a t n) _ _ HA.out.centre.1 HA.out.centre.2 W)
  have Q2 := Lib.hid (fun W => middle_l (raB a t) (raC a t n) W)
  have Q3 := Lib.hid (fun W => inDisc_at (raB a t) (raC a t n) a _ HA.out.inDisc W)
  have Q4 := Lib.hid (fun W => orient_at a (raB a t) (raC a t n) _ HA.out.orient W)
  have Q5 := Lib.hid (fun W => inDisc_at (raB a t) (raC a t n) (raF a t) _ HA.out.farDisc W)
  have hmo := HA.out.midok
  rw [hmo] at Q2
  clear Tx Ty Ax Ay Nx Ny b1 b2 b3 b4 c1 c2 c3 c4 f1 f2 hmo HA
  generalize raB a t = b at *
  generalize raC a t n = c at *
  generalize raF a t = f at *
  generalize midP b c = m at *
  have Em : ∀ w, (Op.equalIn 10000 23 (.agg #[.int .i64 m.x, .int .i64 m.y]) (.agg #[.int .i64 m.x, .int .i64 m.y])).run Try.prog w = .ok true w := fun w => by
    have := eqPt m m w
    rw [decide_eq_true rfl] at this
    exact this
  have EM := Lib.hid Em
  clear Em
  go_upto_region 4 with (fail)
  go_cut [8] (fun pv W => ∃ g8 : Nat, pv = .pointer (some ⟨g8, 0, none⟩) ∧ Var W (g8) [.int .i64 b.x, .int .i64 b.y] ∧ (fun W => Var W (w.heap.size) [.int .i64 a.x, .int .i64 a.y] ∧ Var W (w.heap.size + 1) [.int .i64 t.x, .int .i64 t.y] ∧ Grew w 2 W) W)
  case first =>
    obtain ⟨⟨⟨b1, b2⟩, b3, b4⟩, ⟨⟨c1', c2'⟩, c3', c4'⟩, f1, f2⟩ := HW.out
    clear c1' c2' c3' c4' f1 f2 Q1 Q2 Q3 Q4 Q5 EM HW
    obtain ⟨c0, c1⟩ := HS0.out.1.two
    obtain ⟨c2, c3⟩ := HS0.out.2.1.two
    go_wp2_with fail
    go_meet
    case rel => exact ⟨_, rfl, var2_new _ _ _ _ _ rfl, ⟨HS0.out.1.below (bl_one _ _), HS0.out.2.1.below (bl_one _ _), HS0.out.2.2.below (bl_one _ _)⟩⟩
  case rest =>
  obtain ⟨g8, rfl, vn, hS0⟩ := hcut
  clear HS0
  have HS0 : Hid ((fun W => Var W (w.heap.size) [.int .i64 a.x, .int .i64 a.y] ∧ Var W (w.heap.size + 1) [.int .i64 t.x, .int .i64 t.y] ∧ Var W (g8) [.int .i64 b.x, .int .i64 b.y] ∧ Grew w 2 W) _) := ⟨hS0.1, hS0.2.1, vn, hS0.2.2⟩
  clear hS0 vn
  go_upto_region 5 with (fail)
  go_cut [9] (fun pv W => ∃ g9 : Nat, pv = .pointer (some ⟨g9, 0, none⟩) ∧ Var W (g9) [.int .i64 c.x, .int .i64 c.y] ∧ (fun W => Var W (w.heap.size) [.int .i64 a.x, .int .i64 a.y] ∧ Var W (w.heap.size + 1) [.int .i64 t.x, .int .i64 t.y] ∧ Var W (g8) [.int .i64 b.x, .int .i64 b.y] ∧ Grew w 2 W) W)
  case first =>
    obtain ⟨⟨⟨b1, b2⟩, b3, b4⟩, ⟨⟨c1', c2'⟩, c3', c4'⟩, f1, f2⟩ := HW.out
    clear b1 b2 b3 b4 f1 f2 Q1 Q2 Q3 Q4 Q5 EM HW
    obtain ⟨c0, c1⟩ := HS0.out.1.two
    obtain ⟨c2, c3⟩ := HS0.out.2.1.two
    obtain ⟨c4, c5⟩ := HS0.out.2.2.1.two
    go_wp2_with fail
    go_meet
    case rel => exact ⟨_, rfl, var2_new _ _ _ _ _ rfl, ⟨HS0.out.1.below (bl_one _ _), HS0.out.2.1.below (bl_one _ _), HS0.out.2.2.1.below (bl_one _ _), HS0.out.2.2.2.below (bl_one _ _)⟩⟩
  case rest =>
  obtain ⟨g9, rfl, vn, hS0⟩ := hcut
  clear HS0
  have HS0 : Hid ((fun W => Var W (w.heap.size) [.int .i64 a.x, .int .i64 a.y] ∧ Var W (w.heap.size + 1) [.int .i64 t.x, .int .i64 t.y] ∧ Var W (g8) [.int .i64 b.x, .int .i64 b.y] ∧ Var W (g9) [.int .i64 c.x, .int .i64 c.y] ∧ Grew w 2 W) _) := ⟨hS0.1, hS0.2.1, hS0.2.2.1, vn, hS0.2.2.2⟩
  clear hS0 vn
  go_upto_region 6 with (fail)
  go_cut [10, 11] (fun pv xv W => ∃ g10 : Nat, pv = .pointer (some ⟨g10, 0, none⟩) ∧ xv = .int .i64 0 ∧ Var W (g10) [.int .i64 m.x, .int .i64 m.y] ∧ (fun W => Var W (w.heap.size) [.int .i64 a.x, .int .i64 a.y] ∧ Var W (w.heap.size + 1) [.int .i64 t.x, .int .i64 t.y] ∧ Var W (g8) [.int .i64 b.x, .int .i64 b.y] ∧ Var W (g9) [.int .i64 c.x, .int .i64 c.y] ∧ Grew w 2 W) W)
  case first =>
    obtain ⟨c0, c1⟩ := HS0.out.1.two
    obtain ⟨c2, c3⟩ := HS0.out.2.1.two
    obtain ⟨c4, c5⟩ := HS0.out.2.2.1.two
    obtain ⟨c6, c7⟩ := HS0.out.2.2.2.1.two
    go_wp2_with fail
    (with_reducible refine (Q1.out _).mono ?_); rintro e w1 ⟨rfl, hb1⟩
    go_wp2_with fail
    go_meet
    case rel => exact ⟨_, rfl, rfl, var2_new _ _ _ _ _ rfl, ⟨HS0.out.1.below (bl_trans hb1 (bl_one _ _)), HS0.out.2.1.below (bl_trans hb1 (bl_one _ _)), HS0.out.2.2.1.below (bl_trans hb1 (bl_one _ _)), HS0.out.2.2.2.1.below (bl_trans hb1 (bl_one _ _)), HS0.out.2.2.2.2.below (bl_trans hb1 (bl_one _ _))⟩⟩
  case rest =>
  obtain ⟨g10, rfl, rfl, vn, hS0⟩ := hcut
  clear HS0
  have HS0 : Hid ((fun W => Var W (w.heap.size) [.int .i64 a.x, .int .i64 a.y] ∧ Var W (w.heap.size + 1) [.int .i64 t.x, .int .i64 t.y] ∧ Var W (g8) [.int .i64 b.x, .int .i64 b.y] ∧ Var W (g9) [.int .i64 c.x, .int .i64 c.y] ∧ Var W (g10) [.int .i64 m.x, .int .i64 m.y] ∧ Grew w 2 W) _) := ⟨hS0.1, hS0.2.1, hS0.2.2.1, hS0.2.2.2.1, vn, hS0.2.2.2.2⟩
  clear hS0 vn
  go_upto_region 7 with (fail)
  go_cut [12, 13] (fun pv xv W => ∃ g12 : Nat, pv = .pointer (some ⟨g12, 0, none⟩) ∧ xv = .bool true ∧ Var W (g12) [.int .i64 m.x, .int .i64 m.y] ∧ (fun W => Var W (w.heap.size) [.int .i64 a.x, .int .i64 a.y] ∧ Var W (w.heap.size + 1) [.int .i64 t.x, .int .i64 t.y] ∧ Var W (g8) [.int .i64 b.x, .int .i64 b.y] ∧ Var W (g9) [.int .i64 c.x, .int .i64 c.y] ∧ Var W (g10) [.int .i64 m.x, .int .i64 m.y] ∧ Grew w 2 W) W)
  case first =>
    obtain ⟨c0, c1⟩ := HS0.out.1.two
    obtain ⟨c2, c3⟩ := HS0.out.2.1.two
    obtain ⟨c4, c5⟩ := HS0.out.2.2.1.two
    obtain ⟨c6, c7⟩ := HS0.out.2.2.2.1.two
    obtain ⟨c8, c9⟩ := HS0.out.2.2.2.2.1.two
    go_wp2_with fail
    (with_reducible refine (Q2.out _).mono ?_); rintro e w1 ⟨rfl, hb1⟩
    go_wp2_with fail
    go_meet
    case rel => exact ⟨_, rfl, rfl, var2_new _ _ _ _ _ rfl, ⟨HS0.out.1.below (bl_trans hb1 (bl_one _ _)), HS0.out.2.1.below (bl_trans hb1 (bl_one _ _)), HS0.out.2.2.1.below (bl_trans hb1 (bl_one _ _)), HS0.out.2.2.2.1.below (bl_trans hb1 (bl_one _ _)), HS0.out.2.2.2.2.1.below (bl_trans hb1 (bl_one _ _)), HS0.out.2.2.2.2.2.below (bl_trans hb1 (bl_one _ _))⟩⟩
  case rest =>
  obtain ⟨g12, rfl, rfl, vn, hS0⟩ := hcut
  clear HS0
  have HS0 : Hid ((fun W => Var W (w.heap.size) [.int .i64 a.x, .int .i64 a.y] ∧ Var W (w.heap.size + 1) [.int .i64 t.x, .int .i64 t.y] ∧ Var W (g8) [.int .i64 b.x, .int .i64 b.y] ∧ Var W (g9) [.int .i64 c.x, .int .i64 c.y] ∧ Var W (g10) [.int .i64 m.x, .int .i64 m.y] ∧ Var W (g12) [.int .i64 m.x, .int .i64 m.y] ∧ Grew w 2 W) _) := ⟨hS0.1, hS0.2.1, hS0.2.2.1, hS0.2.2.2.1, hS0.2.2.2.2.1, vn, hS0.2.2.2.2.2⟩
  clear hS0 vn
  go_upto_region 8 with (fail)
  go_cut [14] (fun pv W => ∃ g14 : Nat, pv = .pointer (some ⟨g14, 0, none⟩) ∧ Var W (g14) [.int .i64 f.x, .int .i64 f.y] ∧ (fun W => Var W (w.heap.size) [.int .i64 a.x, .int .i64 a.y] ∧ Var W (w.heap.size + 1) [.int .i64 t.x, .int .i64 t.y] ∧ Var W (g8) [.int .i64 b.x, .int .i64 b.y] ∧ Var W (g9) [.int .i64 c.x, .int .i64 c.y] ∧ Var W (g10) [.int .i64 m.x, .int .i64 m.y] ∧ Var W (g12) [.int .i64 m.x, .int .i64 m.y] ∧ Grew w 2 W) W)
  case first =>
    obtain ⟨⟨⟨b1, b2⟩, b3, b4⟩, ⟨⟨c1', c2'⟩, c3', c4'⟩, f1, f2⟩ := HW.out
    clear b1 b2 b3 b4 c1' c2' c3' c4' Q1 Q2 Q3 Q4 Q5 EM HW
    obtain ⟨c0, c1⟩ := HS0.out.1.two
    obtain ⟨c2, c3⟩ := HS0.out.2.1.two
    obtain ⟨c4, c5⟩ := HS0.out.2.2.1.two
    obtain ⟨c6, c7⟩ := HS0.out.2.2.2.1.two
    obtain ⟨c8, c9⟩ := HS0.out.2.2.2.2.1.two
    obtain ⟨c10, c11⟩ := HS0.out.2.2.2.2.2.1.two
    go_wp2_with fail
    go_meet
    case rel => exact ⟨_, rfl, var2_new _ _ _ _ _ rfl, ⟨HS0.out.1.below (bl_one _ _), HS0.out.2.1.below (bl_one _ _), HS0.out.2.2.1.below (bl_one _ _), HS0.out.2.2.2.1.below (bl_one _ _), HS0.out.2.2.2.2.1.below (bl_one _ _), HS0.out.2.2.2.2.2.1.below (bl_one _ _), HS0.out.2.2.2.2.2.2.below (bl_one _ _)⟩⟩
  case rest =>
  obtain ⟨g14, rfl, vn, hS0⟩ := hcut
  clear HS0
  have HS0 : Hid ((fun W => Var W (w.heap.size) [.int .i64 a.x, .int .i64 a.y] ∧ Var W (w.heap.size + 1) [.int .i64 t.x, .int .i64 t.y] ∧ Var W (g8) [.int .i64 b.x, .int .i64 b.y] ∧ Var W (g9) [.int .i64 c.x, .int .i64 c.y] ∧ Var W (g10) [.int .i64 m.x, .int .i64 m.y] ∧ Var W (g12) [.int .i64 m.x, .int .i64 m.y] ∧ Var W (g14) [.int .i64 f.x, .int .i64 f.y] ∧ Grew w 2 W) _) := ⟨hS0.1, hS0.2.1, hS0.2.2.1, hS0.2.2.2.1, hS0.2.2.2.2.1, hS0.2.2.2.2.2.1, vn, hS0.2.2.2.2.2.2⟩
  clear hS0 vn
  clear HW Q1 Q2
  have Em := EM.out
  clear EM
  obtain ⟨c0, c1⟩ := HS0.out.1.two
  obtain ⟨c2, c3⟩ := HS0.out.2.1.two
  obtain ⟨c4, c5⟩ := HS0.out.2.2.1.two
  obtain ⟨c6, c7⟩ := HS0.out.2.2.2.1.two
  obtain ⟨c8, c9⟩ := HS0.out.2.2.2.2.1.two
  obtain ⟨c10, c11⟩ := HS0.out.2.2.2.2.2.1.two
  obtain ⟨c12, c13⟩ := HS0.out.2.2.2.2.2.2.1.two
  go_upto_region 9 with (fail)
  try dsimp only [List.append]
  go_wp2_with fail
  (with_reducible refine (Q3.out _).mono ?_); rintro e w1 ⟨rfl, hb1⟩
  replace HS0 : Hid ((fun W => Var W (w.heap.size) [.int .i64 a.x, .int .i64 a.y] ∧ Var W (w.heap.size + 1) [.int .i64 t.x, .int .i64 t.y] ∧ Var W (g8) [.int .i64 b.x, .int .i64 b.y] ∧ Var W (g9) [.int .i64 c.x, .int .i64 c.y] ∧ Var W (g10) [.int .i64 m.x, .int .i64 m.y] ∧ Var W (g12) [.int .i64 m.x, .int .i64 m.y] ∧ Var W (g14) [.int .i64 f.x, .int .i64 f.y] ∧ Grew w 2 W) w1) := ⟨HS0.out.1.below hb1, HS0.out.2.1.below hb1, HS0.out.2.2.1.below hb1, HS0.out.2.2.2.1.below hb1, HS0.out.2.2.2.2.1.below hb1, HS0.out.2.2.2.2.2.1.below hb1, HS0.out.2.2.2.2.2.2.1.below hb1, HS0.out.2.2.2.2.2.2.2.below hb1⟩
  clear c0 c1 c2 c3 c4 c5 c6 c7 c8 c9 c10 c11 c12 c13 hb1
  obtain ⟨c0, c1⟩ := HS0.out.1.two
  obtain ⟨c2, c3⟩ := HS0.out.2.1.two
  obtain ⟨c4, c5⟩ := HS0.out.2.2.1.two
  obtain ⟨c6, c7⟩ := HS0.out.2.2.2.1.two
  obtain ⟨c8, c9⟩ := HS0.out.2.2.2.2.1.two
  obtain ⟨c10, c11⟩ := HS0.out.2.2.2.2.2.1.two
  obtain ⟨c12, c13⟩ := HS0.out.2.2.2.2.2.2.1.two
  clear Em
  go_wp2_with fail
  (with_reducible refine (Q4.out _).mono ?_); rintro e w1 ⟨rfl, hb1⟩
  replace HS0 : Hid ((fun W => Var W (w.heap.size) [.int .i64 a.x, .int .i64 a.y] ∧ Var W (w.heap.size + 1) [.int .i64 t.x, .int .i64 t.y] ∧ Var W (g8) [.int .i64 b.x, .int .i64 b.y] ∧ Var W (g9) [.int .i64 c.x, .int .i64 c.y] ∧ Var W (g10) [.int .i64 m.x, .int .i64 m.y] ∧ Var W (g12) [.int .i64 m.x, .int .i64 m.y] ∧ Var W (g14) [.int .i64 f.x, .int .i64 f.y] ∧ Grew w 2 W) w1) := ⟨HS0.out.1.below hb1, HS0.out.2.1.below hb1, HS0.out.2.2.1.below hb1, HS0.out.2.2.2.1.below hb1, HS0.out.2.2.2.2.1.below hb1, HS0.out.2.2.2.2.2.1.below hb1, HS0.out.2.2.2.2.2.2.1.below hb1, HS0.out.2.2.2.2.2.2.2.below hb1⟩
  clear c0 c1 c2 c3 c4 c5 c6 c7 c8 c9 c10 c11 c12 c13 hb1
  obtain ⟨c0, c1⟩ := HS0.out.1.two
  obtain ⟨c2, c3⟩ := HS0.out.2.1.two
  obtain ⟨c4, c5⟩ := HS0.out.2.2.1.two
  obtain ⟨c6, c7⟩ := HS0.out.2.2.2.1.two
  obtain ⟨c8, c9⟩ := HS0.out.2.2.2.2.1.two
  obtain ⟨c10, c11⟩ := HS0.out.2.2.2.2.2.1.two
  obtain ⟨c12, c13⟩ := HS0.out.2.2.2.2.2.2.1.two
  go_wp2_with fail
  (with_reducible refine (Q5.out _).mono ?_); rintro e w1 ⟨rfl, hb1⟩
  replace HS0 : Hid ((fun W => Var W (w.heap.size) [.int .i64 a.x, .int .i64 a.y] ∧ Var W (w.heap.size + 1) [.int .i64 t.x, .int .i64 t.y] ∧ Var W (g8) [.int .i64 b.x, .int .i64 b.y] ∧ Var W (g9) [.int .i64 c.x, .int .i64 c.y] ∧ Var W (g10) [.int .i64 m.x, .int .i64 m.y] ∧ Var W (g12) [.int .i64 m.x, .int .i64 m.y] ∧ Var W (g14) [.int .i64 f.x, .int .i64 f.y] ∧ Grew w 2 W) w1) := ⟨HS0.out.1.below hb1, HS0.out.2.1.below hb1, HS0.out.2.2.1.below hb1, HS0.out.2.2.2.1.below hb1, HS0.out.2.2.2.2.1.below hb1, HS0.out.2.2.2.2.2.1.below hb1, HS0.out.2.2.2.2.2.2.1.below hb1, HS0.out.2.2.2.2.2.2.2.below hb1⟩
  clear c0 c1 c2 c3 c4 c5 c6 c7 c8 c9 c10 c11 c12 c13 hb1
  obtain ⟨c0, c1⟩ := HS0.out.1.two
  obtain ⟨c2, c3⟩ := HS0.out.2.1.two
  obtain ⟨c4, c5⟩ := HS0.out.2.2.1.two
  obtain ⟨c6, c7⟩ := HS0.out.2.2.2.1.two
  obtain ⟨c8, c9⟩ := HS0.out.2.2.2.2.1.two
  obtain ⟨c10, c11⟩ := HS0.out.2.2.2.2.2.1.two
  obtain ⟨c12, c13⟩ := HS0.out.2.2.2.2.2.2.1.two
  have HG := Lib.hid HS0.out.2.2.2.2.2.2.2
  clear HS0 Q3 Q4 Q5 c0 c1 c2 c3 c4 c5 c6 c7 c8 c9 c10 c11 c12 c13
  go_wp2_with (first
    | (go_at_call 21; (with_reducible refine (known3_l _).mono ?_); rintro e w2 ⟨rfl, hb2⟩)
    | go_in)
  go_ret
  exact ⟨rfl, (HG.out.below hb2).hb⟩
end Go.Proofs.Ytojfggnimmaemaa
