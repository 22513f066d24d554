/-
  The law WithinBox.
-/
import Derived.Test.YtkidphekfnmhhaaWBoxMath
import Derived.Test.YtkidphekfnmhhaaGeoAll
namespace Go.Proofs.Ytkidphekfnmhhaa
open Go.RowKit

theorem wrap_eq (z : Int) : wrap64 z = IntKind.i64.wrap z := by rw [IntKind.wrap_i64]; unfold wrap64; omega
theorem ptRow_n5 (W : World) (a b c d e : Pt) (t : TypeId) : PtRow (W.alloc (.cells #[.int .i64 a.x, .int .i64 a.y, .int .i64 b.x, .int .i64 b.y, .int .i64 c.x, .int .i64 c.y, .int .i64 d.x, .int .i64 d.y, .int .i64 e.x, .int .i64 e.y] t)) (some ⟨W.heap.size, 0, none⟩) [a, b, c, d, e] := by
  intro i hi
  refine ⟨_, _, rfl, ?_⟩
  match i, hi with
  | 0, _ => exact ⟨by simp [go_sem, pget], by simp [go_sem, pget]⟩
  | 1, _ => exact ⟨by simp [go_sem, pget], by simp [go_sem, pget]⟩
  | 2, _ => exact ⟨by simp [go_sem, pget], by simp [go_sem, pget]⟩
  | 3, _ => exact ⟨by simp [go_sem, pget], by simp [go_sem, pget]⟩
  | 4, _ => exact ⟨by simp [go_sem, pget], by simp [go_sem, pget]⟩
set_option maxHeartbeats 8000000 in
set_option maxRecDepth 100000 in
theorem box_l (w : World) (lo : Pt) (m : Nat) (hm : m < 65536) (n : Nat) (hn : n < 65536) (q : Pt) :
    Calls Try.prog 8 #[.agg #[.int .i64 lo.x, .int .i64 lo.y], .int .u16 (m : Int), .int .u16 (n : Int), .agg #[.int .i64 q.x, .int .i64 q.y]] w (Gives (.bool true) w) := by
  have KN := Lib.hid (fun W => lawK_l W)
  go_enter Try.func8, Try.ntmps8
  obtain ⟨a, ha⟩ : ∃ a : Int, (1 : Int) + (m : Int) = a := ⟨_, rfl⟩
  obtain ⟨b, hb⟩ : ∃ b : Int, (1 : Int) + (n : Int) = b := ⟨_, rfl⟩
  have HA : Hid (1 ≤ a ∧ a ≤ 65536) := by unfold Hid; omega
  have HBd : Hid (1 ≤ b ∧ b ≤ 65536) := by unfold Hid; omega
  have M : wrap64 ((1 : Int) + (m : Int)) = a := by rw [← ha]; unfold wrap64; omega
  have M2 := Lib.hid (show IntKind.i64.wrap ((1 : Int) + (m : Int)) = a by rw [← ha]; exact IntWalk.i64_in _ (by omega))
  replace M := Lib.hid M
  have M3 : wrap64 ((1 : Int) + (n : Int)) = b := by rw [← hb]; unfold wrap64; omega
  have M4 := Lib.hid (show IntKind.i64.wrap ((1 : Int) + (n : Int)) = b by rw [← hb]; exact IntWalk.i64_in _ (by omega))
  replace M3 := Lib.hid M3
  clear ha hb
  have M5 := Lib.hid (wnum (i := m) (by omega))
  have M6 := Lib.hid (wnum (i := n) (by omega))
  clear hm hn
  obtain ⟨m5, m6, -, -⟩ := M5.out
  obtain ⟨m7, m8, -, -⟩ := M6.out
  have m1 := M.out
  have m2 := M2.out
  have m3 := M3.out
  have m4 := M4.out
  go_upto_region 3 with (fail)
  clear m1 m2 m3 m4 m5 m6 m7 m8 M M2 M3 M4 M5 M6
  obtain ⟨X, hX⟩ : ∃ X, wrap64 (lo.x + a) = X := ⟨_, rfl⟩
  obtain ⟨Y, hY⟩ : ∃ Y, wrap64 (lo.y + b) = Y := ⟨_, rfl⟩
  have HX := Lib.hid hX
  have HY := Lib.hid hY
  have hX2 := hX
  have hY2 := hY
  rw [wrap_eq] at hX2 hY2
  refine wp_abs (fun W => Var W w.heap.size [.int .i64 lo.x, .int .i64 lo.y] ∧ Var W (w.heap.size + 1) [.int .i64 q.x, .int .i64 q.y] ∧ Grew w 2 W) ?_ ?_
  · exact ⟨(var2_new _ _ _ _ _ rfl).below (bl_one _ _), var2_new _ _ _ _ _ (by simp), by repeat (first | (with_reducible exact Below.refl _ _) | (with_reducible refine bl_alloc ?_ _) | (with_reducible refine Below.drew ?_) | (with_reducible refine below_drewN' ?_ _) | ((with_reducible refine bl_set ?_ ?_ _); (rotate_left; (dsimp only; omega)))), by simp⟩
  rintro W0 hS0
  have HS0 := Lib.hid hS0
  clear hS0
  obtain ⟨c0, c1⟩ := HS0.out.1.two
  obtain ⟨c2, c3⟩ := HS0.out.2.1.two
  go_upto_region 4 with (fail)
  have HP := Lib.hid (ptRow_n5 W0 lo ⟨X, lo.y⟩ ⟨X, Y⟩ ⟨lo.x, Y⟩ q 25)
  have HW0 := Lib.hid (bl_one W0 (.cells #[.int .i64 lo.x, .int .i64 lo.y, .int .i64 X, .int .i64 lo.y, .int .i64 X, .int .i64 Y, .int .i64 lo.x, .int .i64 Y, .int .i64 q.x, .int .i64 q.y] 25))
  replace HS0 := Lib.hid (show _ ∧ _ ∧ _ from ⟨HS0.out.1.below HW0.out, HS0.out.2.1.below HW0.out, HS0.out.2.2.below HW0.out⟩)
  clear c0 c1 c2 c3 hX hY hX2 hY2
  generalize W0.alloc (.cells #[.int .i64 lo.x, .int .i64 lo.y, .int .i64 X, .int .i64 lo.y, .int .i64 X, .int .i64 Y, .int .i64 lo.x, .int .i64 Y, .int .i64 q.x, .int .i64 q.y] 25) = W1 at *
  generalize W0.heap.size = g11 at *
  have HB : Hid (Below w.heap.size w W1) := HS0.out.2.2.hb
  obtain ⟨c0, c1⟩ := HS0.out.1.two
  obtain ⟨c2, c3⟩ := HS0.out.2.1.two
  by_cases h0 : 1073741824 < lo.x
  · have b0 : (1073741824 < lo.x) = True := eq_true h0
    go_wp2_with fail
    (with_reducible refine (KN.out _).mono ?_); rintro e w2 ⟨rfl, hb2⟩
    have HZ := Lib.hid (bl_trans HB.out hb2)
    clear hb2
    go_wp2_with fail
    go_ret
    exact ⟨rfl, HZ.out⟩
  have b0 : (1073741824 < lo.x) = False := eq_false h0
  by_cases h1 : lo.x < -1073741824
  · have b1 : (lo.x < -1073741824) = True := eq_true h1
    go_wp2_with fail
    (with_reducible refine (KN.out _).mono ?_); rintro e w2 ⟨rfl, hb2⟩
    have HZ := Lib.hid (bl_trans HB.out hb2)
    clear hb2
    go_wp2_with fail
    go_ret
    exact ⟨rfl, HZ.out⟩
  have b1 : (lo.x < -1073741824) = False := eq_false h1
  by_cases h2 : 1073741824 < lo.y
  · have b2 : (1073741824 < lo.y) = True := eq_true h2
    go_wp2_with fail
    (with_reducible refine (KN.out _).mono ?_); rintro e w2 ⟨rfl, hb2⟩
    have HZ := Lib.hid (bl_trans HB.out hb2)
    clear hb2
    go_wp2_with fail
    go_ret
    exact ⟨rfl, HZ.out⟩
  have b2 : (1073741824 < lo.y) = False := eq_false h2
  by_cases h3 : lo.y < -1073741824
  · have b3 : (lo.y < -1073741824) = True := eq_true h3
    go_wp2_with fail
    (with_reducible refine (KN.out _).mono ?_); rintro e w2 ⟨rfl, hb2⟩
    have HZ := Lib.hid (bl_trans HB.out hb2)
    clear hb2
    go_wp2_with fail
    go_ret
    exact ⟨rfl, HZ.out⟩
  have b3 : (lo.y < -1073741824) = False := eq_false h3
  by_cases h4 : 1073741824 < q.x
  · have b4 : (1073741824 < q.x) = True := eq_true h4
    go_wp2_with fail
    (with_reducible refine (KN.out _).mono ?_); rintro e w2 ⟨rfl, hb2⟩
    have HZ := Lib.hid (bl_trans HB.out hb2)
    clear hb2
    go_wp2_with fail
    go_ret
    exact ⟨rfl, HZ.out⟩
  have b4 : (1073741824 < q.x) = False := eq_false h4
  by_cases h5 : q.x < -1073741824
  · have b5 : (q.x < -1073741824) = True := eq_true h5
    go_wp2_with fail
    (with_reducible refine (KN.out _).mono ?_); rintro e w2 ⟨rfl, hb2⟩
    have HZ := Lib.hid (bl_trans HB.out hb2)
    clear hb2
    go_wp2_with fail
    go_ret
    exact ⟨rfl, HZ.out⟩
  have b5 : (q.x < -1073741824) = False := eq_false h5
  by_cases h6 : 1073741824 < q.y
  · have b6 : (1073741824 < q.y) = True := eq_true h6
    go_wp2_with fail
    (with_reducible refine (KN.out _).mono ?_); rintro e w2 ⟨rfl, hb2⟩
    have HZ := Lib.hid (bl_trans HB.out hb2)
    clear hb2
    go_wp2_with fail
    go_ret
    exact ⟨rfl, HZ.out⟩
  have b6 : (1073741824 < q.y) = False := eq_false h6
  by_cases h7 : q.y < -1073741824
  · have b7 : (q.y < -1073741824) = True := eq_true h7
    go_wp2_with fail
    (with_reducible refine (KN.out _).mono ?_); rintro e w2 ⟨rfl, hb2⟩
    have HZ := Lib.hid (bl_trans HB.out hb2)
    clear hb2
    go_wp2_with fail
    go_ret
    exact ⟨rfl, HZ.out⟩
  have b7 : (q.y < -1073741824) = False := eq_false h7
  have HOK : Hid (BoxOk lo a b q) := ⟨HA.out.1, HA.out.2, HBd.out.1, HBd.out.2, by omega, by omega, by omega, by omega, by omega, by omega, by omega, by omega⟩
  have HXv : Hid (X = lo.x + a) := by have := HX.out; have := HA.out; unfold wrap64 at *; unfold Hid; omega
  have HYv : Hid (Y = lo.y + b) := by have := HY.out; have := HBd.out; unfold wrap64 at *; unfold Hid; omega
  have e1 : [lo, ⟨X, lo.y⟩, ⟨X, Y⟩, ⟨lo.x, Y⟩, q] = boxP lo a b q := by rw [HXv.out, HYv.out]; rfl
  rw [e1] at HP
  clear e1 h0 h1 h2 h3 h4 h5 h6 h7
  have HRi := Lib.hid (fun W => ring9_l 4 (some ⟨g11, 0, none⟩) 5 W (by decide))
  go_wp2_with fail
  (with_reducible refine (HRi.out _).mono ?_); rintro e w2 ⟨v2, rfl, hO⟩
  have hb2 := hO.hb
  obtain ⟨al, cl, ev, -, hL, -⟩ := hO.pts
  rw [show (ringL 4).length = 4 from rfl] at ev
  subst ev
  have HL := Lib.hid hL
  replace HP := Lib.hid (HP.out.below hb2)
  replace HB := Lib.hid (bl_trans HB.out hb2)
  replace HS0 := Lib.hid (show _ ∧ _ ∧ _ from ⟨HS0.out.1.below hb2, HS0.out.2.1.below hb2, HS0.out.2.2.below hb2⟩)
  clear hO hL hb2 HRi c0 c1 c2 c3 b0 b1 b2 b3 b4 b5 b6 b7
  have HFq : Hid (fitB q = true) := by
    have := HOK.out
    exact fitB_iff.2 ⟨by have := this.p0; omega, by have := this.p1; omega, by have := this.q0; omega, by have := this.q1; omega⟩
  have HC1 : Hid (∀ W, Below w2.heap.size w2 W → Calls Try.prog 14 #[.slice (some ⟨g11, 0, none⟩) 5 5, .slice al 4 cl, .agg #[.int .i64 q.x, .int .i64 q.y]] W (Gives (.tuple #[.int .i64 (boxZ lo.x lo.y a b q), .int .i64 0]) W)) := fun W h => by
    have k := box_at HOK.out (k := 1) (by omega) (by omega) HFq.out
    simp only [Int.one_mul] at k
    exact at9_u (boxP lo a b q) (ringL 4) q k (some ⟨g11, 0, none⟩) al 5 cl W (HP.out.below h) (HL.out.below h) (by decide)
  have HC2 : Hid (∀ W, Below w2.heap.size w2 W → Calls Try.prog 16 #[.slice (some ⟨g11, 0, none⟩) 5 5, .slice al 4 cl, .int .i64 0, .int .i64 4] W (Gives (.tuple #[.int .i64 (midN (boxP lo a b q) (ringL 4) [0, 4]), .int .i64 0]) W)) := fun W h =>
    half9_u (boxP lo a b q) (ringL 4) 0 4 ⟨rfl, (box_half HOK.out).1⟩ (some ⟨g11, 0, none⟩) al 5 cl W (HP.out.below h) (HL.out.below h) (by decide)
  have HC3 : Hid (∀ W, Below w2.heap.size w2 W → Calls Try.prog 18 #[.slice (some ⟨g11, 0, none⟩) 5 5, .slice al 4 cl, .int .i64 1, .int .i64 4, .int .i64 4] W (Gives (.tuple #[.int .i64 (midN (boxP lo a b q) (ringL 4) [1, 4, 4]), .int .i64 0]) W)) := fun W h =>
    third9_u (boxP lo a b q) (ringL 4) 1 4 4 ⟨rfl, (box_third HOK.out).1⟩ (some ⟨g11, 0, none⟩) al 5 cl W (HP.out.below h) (HL.out.below h) (by decide)
  have HM2 := Lib.hid (box_half HOK.out).2
  have HM3 := Lib.hid (box_third HOK.out).2
  have HZd : Hid (boxZ lo.x lo.y a b q = if inBox lo.x lo.y a b q then 1 else if onBox lo.x lo.y a b q then 0 else -1) := rfl
  have HIO : Hid (inBox lo.x lo.y a b q = true → onBox lo.x lo.y a b q = true) := by
    intro h
    unfold inBox at h
    unfold onBox
    simp at h ⊢
    omega
  have HFc := Lib.hid (fun W => refFits3_l q W)
  rw [HFq.out] at HFc
  generalize midN (boxP lo a b q) (ringL 4) [0, 4] = z2 at *
  generalize midN (boxP lo a b q) (ringL 4) [1, 4, 4] = z3 at *
  obtain ⟨zb, hzb⟩ : ∃ z, boxZ lo.x lo.y a b q = z := ⟨_, rfl⟩
  obtain ⟨bi, hbi⟩ : ∃ r, inBox lo.x lo.y a b q = r := ⟨_, rfl⟩
  obtain ⟨bo, hbo⟩ : ∃ r, onBox lo.x lo.y a b q = r := ⟨_, rfl⟩
  rw [hzb] at HC1 HZd
  rw [hbi] at HZd HIO HM2 HM3
  rw [hbo] at HZd HIO
  have HBI := Lib.hid hbi
  have HBO := Lib.hid hbo
  clear hzb hbi hbo HOK
  obtain ⟨c0, c1⟩ := HS0.out.1.two
  obtain ⟨c2, c3⟩ := HS0.out.2.1.two
  go_wp2_with fail
  (with_reducible refine (HC1.out _ (Below.refl _ _)).mono ?_); rintro e w3 ⟨rfl, hb2⟩
  replace HC2 : Hid (∀ W, Below w3.heap.size w3 W → Calls Try.prog 16 #[.slice (some ⟨g11, 0, none⟩) 5 5, .slice al 4 cl, .int .i64 0, .int .i64 4] W (Gives (.tuple #[.int .i64 z2, .int .i64 0]) W)) := fun W h => HC2.out W (bl_trans hb2 h)
  replace HC3 : Hid (∀ W, Below w3.heap.size w3 W → Calls Try.prog 18 #[.slice (some ⟨g11, 0, none⟩) 5 5, .slice al 4 cl, .int .i64 1, .int .i64 4, .int .i64 4] W (Gives (.tuple #[.int .i64 z3, .int .i64 0]) W)) := fun W h => HC3.out W (bl_trans hb2 h)
  replace HB := Lib.hid (bl_trans HB.out hb2)
  replace HS0 := Lib.hid (show _ ∧ _ ∧ _ from ⟨HS0.out.1.below hb2, HS0.out.2.1.below hb2, HS0.out.2.2.below hb2⟩)
  clear hb2 c0 c1 c2 c3 HC1 HP HL
  go_upto_region 8 with (fail)
  go_cut [15] (fun x W => x = .bool bi ∧ W = w3)
  case first =>
    obtain ⟨c0, c1⟩ := HS0.out.1.two
    obtain ⟨c2, c3⟩ := HS0.out.2.1.two
    have hx1 := HX.out
    have hy1 := HY.out
    have hx2 := HX.out
    have hy2 := HY.out
    rw [wrap_eq] at hx2 hy2
    by_cases k0 : lo.x < q.x
    case neg =>
      have u0 : (lo.x < q.x) = False := eq_false k0
      have hr : bi = false := by
        rw [← HBI.out]; unfold inBox
        rw [← HXv.out, ← HYv.out]
        simp [k0]
      clear k0
      go_wp2_with fail
      go_meet
      case rel => exact ⟨by rw [hr], rfl⟩
    case pos =>
    have u0 : (lo.x < q.x) = True := eq_true k0
    by_cases k1 : q.x < X
    case neg =>
      have u1 : (q.x < X) = False := eq_false k1
      have hr : bi = false := by
        rw [← HBI.out]; unfold inBox
        rw [← HXv.out, ← HYv.out]
        simp [k1]
      clear k1
      go_wp2_with fail
      go_meet
      case rel => exact ⟨by rw [hr], rfl⟩
    case pos =>
    have u1 : (q.x < X) = True := eq_true k1
    by_cases k2 : lo.y < q.y
    case neg =>
      have u2 : (lo.y < q.y) = False := eq_false k2
      have hr : bi = false := by
        rw [← HBI.out]; unfold inBox
        rw [← HXv.out, ← HYv.out]
        simp [k2]
      clear k2
      go_wp2_with fail
      go_meet
      case rel => exact ⟨by rw [hr], rfl⟩
    case pos =>
    have u2 : (lo.y < q.y) = True := eq_true k2
    by_cases k3 : q.y < Y
    case neg =>
      have u3 : (q.y < Y) = False := eq_false k3
      have hr : bi = false := by
        rw [← HBI.out]; unfold inBox
        rw [← HXv.out, ← HYv.out]
        simp [k3]
      clear k3
      go_wp2_with fail
      go_meet
      case rel => exact ⟨by rw [hr], rfl⟩
    case pos =>
    have u3 : (q.y < Y) = True := eq_true k3
    have hr : bi = true := by
      rw [← HBI.out]; unfold inBox
      rw [← HXv.out, ← HYv.out]
      simp [k0, k1, k2, k3]
    go_wp2_with fail
    go_meet
    case rel => exact ⟨by rw [hr], rfl⟩
  case rest =>
  obtain ⟨rfl, ew⟩ := hcut
  rw [ew]
  clear ew
  go_upto_region 9 with (fail)
  go_cut [16] (fun x W => x = .bool bo ∧ W = w3)
  case first =>
    obtain ⟨c0, c1⟩ := HS0.out.1.two
    obtain ⟨c2, c3⟩ := HS0.out.2.1.two
    have hx1 := HX.out
    have hy1 := HY.out
    have hx2 := HX.out
    have hy2 := HY.out
    rw [wrap_eq] at hx2 hy2
    by_cases k0 : lo.x ≤ q.x
    case neg =>
      have u0 : (lo.x ≤ q.x) = False := eq_false k0
      have hr : bo = false := by
        rw [← HBO.out]; unfold onBox
        rw [← HXv.out, ← HYv.out]
        simp [k0]
      clear k0
      go_wp2_with fail
      go_meet
      case rel => exact ⟨by rw [hr], rfl⟩
    case pos =>
    have u0 : (lo.x ≤ q.x) = True := eq_true k0
    by_cases k1 : q.x ≤ X
    case neg =>
      have u1 : (q.x ≤ X) = False := eq_false k1
      have hr : bo = false := by
        rw [← HBO.out]; unfold onBox
        rw [← HXv.out, ← HYv.out]
        simp [k1]
      clear k1
      go_wp2_with fail
      go_meet
      case rel => exact ⟨by rw [hr], rfl⟩
    case pos =>
    have u1 : (q.x ≤ X) = True := eq_true k1
    by_cases k2 : lo.y ≤ q.y
    case neg =>
      have u2 : (lo.y ≤ q.y) = False := eq_false k2
      have hr : bo = false := by
        rw [← HBO.out]; unfold onBox
        rw [← HXv.out, ← HYv.out]
        simp [k2]
      clear k2
      go_wp2_with fail
      go_meet
      case rel => exact ⟨by rw [hr], rfl⟩
    case pos =>
    have u2 : (lo.y ≤ q.y) = True := eq_true k2
    by_cases k3 : q.y ≤ Y
    case neg =>
      have u3 : (q.y ≤ Y) = False := eq_false k3
      have hr : bo = false := by
        rw [← HBO.out]; unfold onBox
        rw [← HXv.out, ← HYv.out]
        simp [k3]
      clear k3
      go_wp2_with fail
      go_meet
      case rel => exact ⟨by rw [hr], rfl⟩
    case pos =>
    have u3 : (q.y ≤ Y) = True := eq_true k3
    have hr : bo = true := by
      rw [← HBO.out]; unfold onBox
      rw [← HXv.out, ← HYv.out]
      simp [k0, k1, k2, k3]
    go_wp2_with fail
    go_meet
    case rel => exact ⟨by rw [hr], rfl⟩
  case rest =>
  obtain ⟨rfl, ew⟩ := hcut
  rw [ew]
  clear ew
  go_upto_region 10 with (fail)
  clear HX HY HXv HYv HA HBd HBI HBO
  have h3 : (bi = true ∧ bo = true ∧ zb = 1) ∨ (bi = false ∧ bo = true ∧ zb = 0) ∨ (bi = false ∧ bo = false ∧ zb = -1) := by
    have h1 := HZd.out
    have h2 := HIO.out
    cases bi <;> cases bo <;> simp_all
  clear HZd HIO
  obtain ⟨c2, c3⟩ := HS0.out.2.1.two
  rcases h3 with ⟨rfl, rfl, rfl⟩ | ⟨rfl, rfl, rfl⟩ | ⟨rfl, rfl, rfl⟩
  · obtain rfl := HM2.out rfl
    obtain rfl := HM3.out rfl
    clear HM2 HM3
    go_wp2_with fail
    (with_reducible refine (HC2.out _ (Below.refl _ _)).mono ?_); rintro e w4 ⟨rfl, hb2⟩
    go_wp2_with fail
    (with_reducible refine (HC3.out _ hb2).mono ?_); rintro e w5 ⟨rfl, hb3⟩
    have hb4 := bl_trans hb2 hb3
    replace HB := Lib.hid (bl_trans HB.out hb4)
    replace HS0 := Lib.hid (HS0.out.2.1.below hb4)
    clear hb2 hb3 hb4 c2 c3 HC2 HC3
    obtain ⟨c2, c3⟩ := HS0.out.two
    go_wp2_with fail
    (with_reducible refine (HFc.out _).mono ?_); rintro e w6 ⟨rfl, hb2⟩
    replace HB := Lib.hid (bl_trans HB.out hb2)
    clear hb2 c2 c3 HS0 HFc
    go_wp2_with fail
    (with_reducible refine (KN.out _).mono ?_); rintro e w7 ⟨rfl, hb2⟩
    replace HB := Lib.hid (bl_trans HB.out hb2)
    clear hb2 KN
    go_wp2_with fail
    go_ret
    exact ⟨rfl, HB.out⟩
  · clear HM2 HM3
    go_wp2_with fail
    (with_reducible refine (HC2.out _ (Below.refl _ _)).mono ?_); rintro e w4 ⟨rfl, hb2⟩
    go_wp2_with fail
    (with_reducible refine (HC3.out _ hb2).mono ?_); rintro e w5 ⟨rfl, hb3⟩
    have hb4 := bl_trans hb2 hb3
    replace HB := Lib.hid (bl_trans HB.out hb4)
    replace HS0 := Lib.hid (HS0.out.2.1.below hb4)
    clear hb2 hb3 hb4 c2 c3 HC2 HC3
    obtain ⟨c2, c3⟩ := HS0.out.two
    go_wp2_with fail
    (with_reducible refine (HFc.out _).mono ?_); rintro e w6 ⟨rfl, hb2⟩
    replace HB := Lib.hid (bl_trans HB.out hb2)
    clear hb2 c2 c3 HS0 HFc
    go_wp2_with fail
    (with_reducible refine (KN.out _).mono ?_); rintro e w7 ⟨rfl, hb2⟩
    replace HB := Lib.hid (bl_trans HB.out hb2)
    clear hb2 KN
    go_wp2_with fail
    go_ret
    exact ⟨rfl, HB.out⟩
  · clear HM2 HM3
    go_wp2_with fail
    (with_reducible refine (HC2.out _ (Below.refl _ _)).mono ?_); rintro e w4 ⟨rfl, hb2⟩
    go_wp2_with fail
    (with_reducible refine (HC3.out _ hb2).mono ?_); rintro e w5 ⟨rfl, hb3⟩
    have hb4 := bl_trans hb2 hb3
    replace HB := Lib.hid (bl_trans HB.out hb4)
    replace HS0 := Lib.hid (HS0.out.2.1.below hb4)
    clear hb2 hb3 hb4 c2 c3 HC2 HC3
    obtain ⟨c2, c3⟩ := HS0.out.two
    go_wp2_with fail
    (with_reducible refine (HFc.out _).mono ?_); rintro e w6 ⟨rfl, hb2⟩
    replace HB := Lib.hid (bl_trans HB.out hb2)
    clear hb2 c2 c3 HS0 HFc
    go_wp2_with fail
    (with_reducible refine (KN.out _).mono ?_); rintro e w7 ⟨rfl, hb2⟩
    replace HB := Lib.hid (bl_trans HB.out hb2)
    clear hb2 KN
    go_wp2_with fail
    go_ret
    exact ⟨rfl, HB.out⟩
end Go.Proofs.Ytkidphekfnmhhaa
