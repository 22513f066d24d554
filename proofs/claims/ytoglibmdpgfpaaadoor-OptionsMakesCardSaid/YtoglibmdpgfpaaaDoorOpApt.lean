/-
  The walk of the law OptionsApart.
-/
import Derived.Test.YtoglibmdpgfpaaaDoorOpPrts
set_option linter.unusedVariables false
set_option linter.unusedSimpArgs false
set_option linter.deprecated false
namespace Go.Proofs.YtoglibmdpgfpaaaDoor
open Go.RowKit

theorem eqOpN6 (a b a' b' : Int) (c c' : Bool) (h : ¬ (a = a' ∧ b = b' ∧ c = c')) (w : World) : (Op.equalIn 10000 62 (.agg #[.int .i64 a, .int .i64 b, .bool c]) (.agg #[.int .i64 a', .int .i64 b', .bool c'])).run Tryd.prog w = .ok false w := by
  have hS : Tryd.prog.underlying 62 = some (.struct (Tryd.prog.fieldsOf 62)) := by kernel_rfl
  have hp : Tryd.prog.stoodInHeld 62 = false := by kernel_rfl
  have u4 := Tryd.underlying3
  have u5 := Tryd.underlying4
  rw [show (10000 : Nat) = 9999 + 1 from rfl, run_equalIn_agg w 9999 62 _ _ hS hp]
  simp only [Program.fieldsOf, Tryd.underlying62]
  by_cases h1 : a = a'
  · by_cases h2 : b = b'
    · have h3 : c ≠ c' := fun e => h ⟨h1, h2, e⟩
      subst h1 h2
      cases c <;> cases c' <;> first | exact absurd rfl h3 | go_simp
    · subst h1
      have b2 : (b == b') = false := beq_eq_false_iff_ne.2 h2
      go_simp
  · have b1 : (a == a') = false := beq_eq_false_iff_ne.2 h1
    go_simp
theorem row2_6 {W : World} {v1 v2 : Value} {s1 s2 : St6} (h1 : StV6 W v1 s1) (h2 : StV6 W v2 s2) (t : TypeId) : FnRow6 (W.alloc (.cells #[v1, v2] t)) (some ⟨W.heap.size, 0, none⟩) [s1, s2] := by
  intro i hi
  have hi' : i < 2 := hi
  have : i = 0 ∨ i = 1 := by omega
  rcases this with rfl | rfl
  · exact ⟨_, 0, v1, rfl, by simp [go_sem], h1.below (bl_one _ _)⟩
  · exact ⟨_, 0, v2, rfl, by simp [go_sem], h2.below (bl_one _ _)⟩
theorem make2_6 (s1 s2 : St6) (o : Op6) (ho : made6 [s1, s2] = o) (ad : Option Addr) (W : World) (h : FnRow6 W ad [s1, s2]) : Calls Tryd.prog 36 #[.slice ad 2 2] W (Gives (makeR6 o) W) := by
  have h1 := make_l [s1, s2] ad 2 W h (by show 2 ≤ 100000; omega)
  rw [ho] at h1
  exact h1
set_option maxHeartbeats 16000000 in
set_option maxRecDepth 100000 in
theorem apart_l (m b : Int) (r : Bool) (m' b' : Int) (r' : Bool) (n : Int) (w : World) (hG : Words6 w) : Calls Tryd.prog 14 #[.agg #[.int .i64 m, .int .i64 b, .bool r], .agg #[.int .i64 m', .int .i64 b', .bool r'], .int .i64 n] w (Gives (.bool true) w) := by
  have HG := Lib.hid hG
  have K := Lib.hid (fun W h => known6_l W h)
  have C1 := Lib.hid (fun W h => oprint_l m b r W h)
  have C2 := Lib.hid (fun W h => oprint_l m' b' r' W h)
  clear hG
  go_enter Tryd.func14, Tryd.ntmps14
  go_upto_region 1 with (fail)
  obtain ⟨ga, hga⟩ : ∃ ga, w.heap.size = ga := ⟨_, rfl⟩
  obtain ⟨gb, hgb⟩ : ∃ gb, ga + 1 = gb := ⟨_, rfl⟩
  refine wp_abs (fun V => Below w.heap.size w V ∧ Var V ga [.int .i64 m, .int .i64 b, .bool r] ∧ Var V gb [.int .i64 m', .int .i64 b', .bool r']) ?_ ?_
  · exact ⟨by repeat (first | (with_reducible exact Below.refl _ _) | (with_reducible refine bl_alloc ?_ _) | (with_reducible refine Below.drew ?_) | (with_reducible refine below_drewN' ?_ _) | ((with_reducible refine bl_set ?_ ?_ _); (rotate_left; (dsimp only; omega)))), (var3o_new _ _ _ _ _ _ hga.symm).below (bl_one _ _), var3o_new _ _ _ _ _ _ (by simp; omega)⟩
  rintro W0 hS0
  have HS := Lib.hid hS0
  rw [hga, hgb]
  clear hS0 hga hgb
  obtain ⟨o0, o1, o2⟩ := HS.out.2.1.three6
  go_wp2_with fail
  (with_reducible refine (C1.out _ (HG.out.below HS.out.1)).mono ?_); rintro e w1 ⟨hp, hb1⟩
  replace HS := Lib.hid (And.intro (bl_trans HS.out.1 hb1) (And.intro (HS.out.2.1.below hb1) (HS.out.2.2.below hb1)))
  clear hb1 o0 o1 o2 W0 C1
  have hP1 : ∃ s er, e = .returned (.tuple #[.string s, .int .i64 er]) ∧ Hid ((okO6 m b = false ∧ er = 2) ∨ (okO6 m b = true ∧ er = 0 ∧ nums s = text6 m b.toNat r)) := by
    rcases hp with ⟨h1, h2⟩ | ⟨h1, s, h2, h3⟩
    · exact ⟨_, 2, h2, .inl ⟨h1, rfl⟩⟩
    · exact ⟨s, 0, h2, .inr ⟨h1, rfl, h3⟩⟩
  obtain ⟨s, er, rfl, HP1⟩ := hP1
  clear hp
  obtain ⟨o0, o1, o2⟩ := HS.out.2.2.three6
  go_wp2_with fail
  (with_reducible refine (C2.out _ (HG.out.below HS.out.1)).mono ?_); rintro e w2 ⟨hp, hb1⟩
  replace HS := Lib.hid (And.intro (bl_trans HS.out.1 hb1) (And.intro (HS.out.2.1.below hb1) (HS.out.2.2.below hb1)))
  clear hb1 o0 o1 o2 C2
  have hP2 : ∃ t fr, e = .returned (.tuple #[.string t, .int .i64 fr]) ∧ Hid ((okO6 m' b' = false ∧ fr = 2) ∨ (okO6 m' b' = true ∧ fr = 0 ∧ nums t = text6 m' b'.toNat r')) := by
    rcases hp with ⟨h1, h2⟩ | ⟨h1, s, h2, h3⟩
    · exact ⟨_, 2, h2, .inl ⟨h1, rfl⟩⟩
    · exact ⟨s, 0, h2, .inr ⟨h1, rfl, h3⟩⟩
  obtain ⟨t, fr, rfl, HP2⟩ := hP2
  clear hp
  -- the texts are one just if the options are
  have HQ : Hid (er = 2 ∨ (er = 0 ∧ fr = 2) ∨ (er = 0 ∧ fr = 0 ∧ s = t ∧ m = m' ∧ b = b' ∧ r = r') ∨ (er = 0 ∧ fr = 0 ∧ (s.toList == t.toList) = false ∧ ¬ (m = m' ∧ b = b' ∧ r = r'))) := by
    rcases HP1.out with ⟨-, h1⟩ | ⟨h0, h1, h2⟩
    · exact .inl h1
    rcases HP2.out with ⟨-, k1⟩ | ⟨k0, k1, k2⟩
    · exact .inr (.inl ⟨h1, k1⟩)
    obtain ⟨hm, hb0, hb1⟩ := okO_iff6.1 h0
    obtain ⟨km, kb0, kb1⟩ := okO_iff6.1 k0
    by_cases heq : m = m' ∧ b = b' ∧ r = r'
    · obtain ⟨rfl, rfl, rfl⟩ := heq
      exact .inr (.inr (.inl ⟨h1, k1, nums_inj (h2.trans k2.symm), rfl, rfl, rfl⟩))
    · refine .inr (.inr (.inr ⟨h1, k1, ?_, heq⟩))
      rw [beq_eq_false_iff_ne]
      intro h9
      have e9 : nums s = nums t := by
        have h8 := toList_eqs s t.toList
        rw [beq_iff_eq.2 h9] at h8
        have h7 := of_decide_eq_true h8.symm
        rw [ByteArray.toList_eq] at h7
        exact h7
      rw [h2, k2] at e9
      have h6 := text_inj6 hm (by omega) km (by omega) e9
      exact heq ⟨h6.1, by omega, h6.2.2⟩
  clear HP1 HP2
  obtain ⟨o0, o1, o2⟩ := HS.out.2.1.three6
  obtain ⟨p0, p1, p2⟩ := HS.out.2.2.three6
  go_upto_region 3 with (fail)
  go_cut [42] (fun v W => v = .bool false ∧ W = w2)
  case first =>
    rcases HQ.out with rfl | ⟨rfl, rfl⟩ | ⟨rfl, rfl, rfl, rfl, rfl, rfl⟩ | ⟨rfl, rfl, hne, hno⟩
    · clear HQ
      go_wp2_with fail
      go_meet
      case rel => exact ⟨by first | rfl | simp, by first | rfl | trivial⟩
    · clear HQ
      go_wp2_with fail
      go_meet
      case rel => exact ⟨by first | rfl | simp, by first | rfl | trivial⟩
    · clear HQ
      have he := fun W => eqOp6 m b r W
      go_wp2_with fail
      go_meet
      case rel => exact ⟨by first | rfl | simp, by first | rfl | trivial⟩
    · clear HQ
      have he := fun W => eqOpN6 m b m' b' r r' hno W
      clear hno
      go_wp2_with fail
      go_meet
      case rel => exact ⟨by first | rfl | simp, by first | rfl | trivial⟩
  case rest =>
  obtain ⟨rfl, rfl⟩ := hcut
  clear HQ o0 o1 o2 p0 p1 p2
  have HB := Lib.hid HS.out.1
  clear HS
  go_wp2_with fail
  (with_reducible refine (setb6_l n _).mono ?_); rintro e w3 ⟨v1, rfl, hv1, hb3⟩
  obtain ⟨p1, rfl⟩ := hv1.shape (by intro h; cases h)
  have H1 := Lib.hid hv1
  replace HB := Lib.hid (bl_trans HB.out hb3)
  clear hv1 hb3
  go_wp2_with fail
  (with_reducible refine (setb6_l 3 _).mono ?_); rintro e w4 ⟨v2, rfl, hv2, hb4⟩
  obtain ⟨p2, rfl⟩ := hv2.shape (by intro h; cases h)
  have H2 := Lib.hid hv2
  replace H1 := Lib.hid (H1.out.below hb4)
  replace HB := Lib.hid (bl_trans HB.out hb4)
  clear hv2 hb4
  have HM1 := Lib.hid (make2_6 (.budget n) (.budget 3) ⟨1, 3, false⟩ rfl _ _ (row2_6 H1.out H2.out 83))
  have e1 : makeR6 ⟨1, 3, false⟩ = .tuple #[.agg #[.int .i64 1, .int .i64 3, .bool false], .int .i64 0] := rfl
  rw [e1] at HM1
  clear e1
  go_wp2_with fail
  (with_reducible refine HM1.out.mono ?_); rintro e w5 ⟨rfl, hb5⟩
  have hb5' := bl_trans (bl_one w4 _) hb5
  replace HB := Lib.hid (bl_trans HB.out hb5')
  replace H1 := Lib.hid (H1.out.below hb5')
  replace H2 := Lib.hid (H2.out.below hb5')
  clear hb5 hb5' HM1
  obtain ⟨gx, hgx⟩ : ∃ g, w5.heap.size = g := ⟨_, rfl⟩
  go_upto_region 8 with (fail)
  refine wp_abs (fun V => (Below w.heap.size w V ∧ Below w5.heap.size w5 V) ∧ Var V gx [.int .i64 1, .int .i64 3, .bool false]) ?_ ?_
  · exact ⟨⟨bl_trans HB.out (by repeat (first | (with_reducible exact Below.refl _ _) | (with_reducible refine bl_alloc ?_ _) | (with_reducible refine Below.drew ?_) | (with_reducible refine below_drewN' ?_ _) | ((with_reducible refine bl_set ?_ ?_ _); (rotate_left; (dsimp only; omega))))), by repeat (first | (with_reducible exact Below.refl _ _) | (with_reducible refine bl_alloc ?_ _) | (with_reducible refine Below.drew ?_) | (with_reducible refine below_drewN' ?_ _) | ((with_reducible refine bl_set ?_ ?_ _); (rotate_left; (dsimp only; omega))))⟩, var3o_new _ _ _ _ _ _ hgx.symm⟩
  rintro W6 hS6
  have HB6 := Lib.hid hS6.1.1
  have HX := Lib.hid hS6.2
  have H16 := Lib.hid (H1.out.below hS6.1.2)
  have H26 := Lib.hid (H2.out.below hS6.1.2)
  try rw [hgx]
  clear hS6 hgx HB H1 H2
  have HM2 := Lib.hid (make2_6 (.budget 3) (.budget n) ⟨1, n, false⟩ rfl _ _ (row2_6 H26.out H16.out 83))
  obtain ⟨c, hc⟩ : ∃ c, okO6 1 n = c := ⟨_, rfl⟩
  have HC := Lib.hid hc
  have e2 : makeR6 ⟨1, n, false⟩ = if c then .tuple #[.agg #[.int .i64 1, .int .i64 n, .bool false], .int .i64 0] else .tuple #[.agg #[.int .i64 0, .int .i64 0, .bool false], .int .i64 2] := by unfold makeR6; dsimp only; rw [hc]
  rw [e2] at HM2
  have HN : Hid ((c = true ∧ 0 ≤ n ∧ n ≤ 100) ∨ (c = false ∧ (n < 0 ∨ (0 ≤ n ∧ 100 < n)))) := by
    cases c
    · refine .inr ⟨rfl, ?_⟩
      have h9 : ¬ ((1 ≤ (1 : Int) ∧ (1 : Int) ≤ 3) ∧ 0 ≤ n ∧ n ≤ 100) := fun h => by rw [okO_iff6.2 h] at hc; cases hc
      omega
    · exact .inl ⟨rfl, (okO_iff6.1 hc).2⟩
  clear e2 hc HC H16 H26
  rcases HN.out with ⟨rfl, h1, h2⟩ | ⟨rfl, h1 | ⟨h1, h2⟩⟩
  · rw [if_pos rfl] at HM2
    go_wp2_with fail
    (with_reducible refine HM2.out.mono ?_); rintro e w7 ⟨rfl, hb7⟩
    have hb7' := bl_trans (bl_one W6 _) hb7
    replace HB6 := Lib.hid (bl_trans HB6.out hb7')
    replace HX := Lib.hid (HX.out.below hb7')
    clear hb7 hb7' HM2
    obtain ⟨gy, hgy⟩ : ∃ g, w7.heap.size = g := ⟨_, rfl⟩
    go_upto_region 9 with (fail)
    refine wp_abs (fun V => Below w.heap.size w V ∧ Var V gx [.int .i64 1, .int .i64 3, .bool false] ∧ Var V gy [.int .i64 1, .int .i64 n, .bool false]) ?_ ?_
    · exact ⟨bl_trans HB6.out (by repeat (first | (with_reducible exact Below.refl _ _) | (with_reducible refine bl_alloc ?_ _) | (with_reducible refine Below.drew ?_) | (with_reducible refine below_drewN' ?_ _) | ((with_reducible refine bl_set ?_ ?_ _); (rotate_left; (dsimp only; omega))))), HX.out.below (by repeat (first | (with_reducible exact Below.refl _ _) | (with_reducible refine bl_alloc ?_ _) | (with_reducible refine Below.drew ?_) | (with_reducible refine below_drewN' ?_ _) | ((with_reducible refine bl_set ?_ ?_ _); (rotate_left; (dsimp only; omega))))), var3o_new _ _ _ _ _ _ hgy.symm⟩
    rintro W8 hS8
    have HS8 := Lib.hid hS8
    try rw [hgy]
    clear hS8 hgy HB6 HX
    obtain ⟨o0, o1, o2⟩ := HS8.out.2.1.three6
    obtain ⟨p0, p1', p2'⟩ := HS8.out.2.2.three6
    go_wp2_with fail
    (with_reducible refine (K.out _ (HG.out.below HS8.out.1)).mono ?_); rintro e w9 ⟨rfl, hb9⟩
    have HB9 := Lib.hid (bl_trans HS8.out.1 hb9)
    clear hb9
    go_wp2_with fail
    go_ret
    exact ⟨rfl, HB9.out⟩
  · rw [if_neg (by decide)] at HM2
    go_wp2_with fail
    (with_reducible refine HM2.out.mono ?_); rintro e w7 ⟨rfl, hb7⟩
    have hb7' := bl_trans (bl_one W6 _) hb7
    replace HB6 := Lib.hid (bl_trans HB6.out hb7')
    replace HX := Lib.hid (HX.out.below hb7')
    clear hb7 hb7' HM2
    obtain ⟨gy, hgy⟩ : ∃ g, w7.heap.size = g := ⟨_, rfl⟩
    go_upto_region 9 with (fail)
    refine wp_abs (fun V => Below w.heap.size w V ∧ Var V gx [.int .i64 1, .int .i64 3, .bool false] ∧ Var V gy [.int .i64 0, .int .i64 0, .bool false]) ?_ ?_
    · exact ⟨bl_trans HB6.out (by repeat (first | (with_reducible exact Below.refl _ _) | (with_reducible refine bl_alloc ?_ _) | (with_reducible refine Below.drew ?_) | (with_reducible refine below_drewN' ?_ _) | ((with_reducible refine bl_set ?_ ?_ _); (rotate_left; (dsimp only; omega))))), HX.out.below (by repeat (first | (with_reducible exact Below.refl _ _) | (with_reducible refine bl_alloc ?_ _) | (with_reducible refine Below.drew ?_) | (with_reducible refine below_drewN' ?_ _) | ((with_reducible refine bl_set ?_ ?_ _); (rotate_left; (dsimp only; omega))))), var3o_new _ _ _ _ _ _ hgy.symm⟩
    rintro W8 hS8
    have HS8 := Lib.hid hS8
    try rw [hgy]
    clear hS8 hgy HB6 HX
    obtain ⟨o0, o1, o2⟩ := HS8.out.2.1.three6
    obtain ⟨p0, p1', p2'⟩ := HS8.out.2.2.three6
    have he := fun W => eqOp6 0 0 false W
    have h3 : ¬ 0 ≤ n := by omega
    have h4 : (0 ≤ n) = False := eq_false h3
    go_wp2_with fail
    (with_reducible refine (K.out _ (HG.out.below HS8.out.1)).mono ?_); rintro e w9 ⟨rfl, hb9⟩
    have HB9 := Lib.hid (bl_trans HS8.out.1 hb9)
    clear hb9
    go_wp2_with fail
    go_ret
    exact ⟨rfl, HB9.out⟩
  · rw [if_neg (by decide)] at HM2
    go_wp2_with fail
    (with_reducible refine HM2.out.mono ?_); rintro e w7 ⟨rfl, hb7⟩
    have hb7' := bl_trans (bl_one W6 _) hb7
    replace HB6 := Lib.hid (bl_trans HB6.out hb7')
    replace HX := Lib.hid (HX.out.below hb7')
    clear hb7 hb7' HM2
    obtain ⟨gy, hgy⟩ : ∃ g, w7.heap.size = g := ⟨_, rfl⟩
    go_upto_region 9 with (fail)
    refine wp_abs (fun V => Below w.heap.size w V ∧ Var V gx [.int .i64 1, .int .i64 3, .bool false] ∧ Var V gy [.int .i64 0, .int .i64 0, .bool false]) ?_ ?_
    · exact ⟨bl_trans HB6.out (by repeat (first | (with_reducible exact Below.refl _ _) | (with_reducible refine bl_alloc ?_ _) | (with_reducible refine Below.drew ?_) | (with_reducible refine below_drewN' ?_ _) | ((with_reducible refine bl_set ?_ ?_ _); (rotate_left; (dsimp only; omega))))), HX.out.below (by repeat (first | (with_reducible exact Below.refl _ _) | (with_reducible refine bl_alloc ?_ _) | (with_reducible refine Below.drew ?_) | (with_reducible refine below_drewN' ?_ _) | ((with_reducible refine bl_set ?_ ?_ _); (rotate_left; (dsimp only; omega))))), var3o_new _ _ _ _ _ _ hgy.symm⟩
    rintro W8 hS8
    have HS8 := Lib.hid hS8
    try rw [hgy]
    clear hS8 hgy HB6 HX
    obtain ⟨o0, o1, o2⟩ := HS8.out.2.1.three6
    obtain ⟨p0, p1', p2'⟩ := HS8.out.2.2.three6
    have he := fun W => eqOp6 0 0 false W
    have h3 : ¬ n ≤ 100 := by omega
    have h4 : (n ≤ 100) = False := eq_false h3
    go_wp2_with fail
    (with_reducible refine (K.out _ (HG.out.below HS8.out.1)).mono ?_); rintro e w9 ⟨rfl, hb9⟩
    have HB9 := Lib.hid (bl_trans HS8.out.1 hb9)
    clear hb9
    go_wp2_with fail
    go_ret
    exact ⟨rfl, HB9.out⟩
end Go.Proofs.YtoglibmdpgfpaaaDoor
