/-
  The walk of the law InputBack.
-/
import Derived.Test.YtdpbmkfgolemjaaDoorRdLaws
set_option linter.unusedVariables false
set_option linter.unusedSimpArgs false
set_option linter.deprecated false
namespace Go.Proofs.YtdpbmkfgolemjaaDoor
open Go.RowKit

set_option maxHeartbeats 16000000 in
set_option maxRecDepth 100000 in
theorem iback_l5 (p l i : List (Int × Int)) (ap al ai : Option Addr) (cp cl ci : Nat) (ad : Option Addr) (cb : Nat) (s : ByteArray) (hcap : s.size ≤ cb) (w : World) (hT : Tab5 w) (hA : p.length ≤ 10000 → l.length ≤ 10000 → i.length ≤ 10000 → Pol5 w ap al ai cp cl ci p l i) (hB : BytesIn w ad s) :
    Calls Tryd.prog 5 #[.agg #[.slice ap p.length cp, .slice al l.length cl, .slice ai i.length ci], .slice ad s.size cb] w (Gives (.bool true) w) := by
  have HT := Lib.hid hT
  have HA0 := Lib.hid hA
  have HB0 := Lib.hid hB
  have KN := Lib.hid (fun W h => known_l5 W h)
  have LG := Lib.hid (fun W => long_l5 p.length l.length i.length ap al ai cp cl ci W)
  clear hT hA hcap hB
  go_enter Tryd.func5, Tryd.ntmps5
  go_upto_region 1 with (fail)
  obtain ⟨g1, hg1⟩ : ∃ g, w.heap.size = g := ⟨_, rfl⟩
  refine wp_abs (fun V => Below w.heap.size w V ∧ Var V g1 [.slice ap p.length cp, .slice al l.length cl, .slice ai i.length ci]) ?_ ?_
  · exact ⟨by repeat (first | (with_reducible exact Below.refl _ _) | (with_reducible refine bl_alloc ?_ _) | (with_reducible refine Below.drew ?_) | (with_reducible refine below_drewN' ?_ _) | ((with_reducible refine bl_set ?_ ?_ _); (rotate_left; (dsimp only; omega)))), var3o_new _ _ _ _ _ _ hg1.symm⟩
  rintro W0 hS
  have HS := Lib.hid hS
  rw [hg1]
  clear hS hg1
  obtain ⟨k0, k1, k2⟩ := HS.out.2.three6
  obtain ⟨B, hB⟩ : ∃ B, (decide (300 < p.length) || decide (500 < l.length) || decide (500 < i.length)) = B := ⟨_, rfl⟩
  rw [hB] at LG
  by_cases hbig : B = true ∨ 9000 < s.size
  · have hq : B = true ∨ B = false ∧ 9000 < s.size := by
      cases B
      · rcases hbig with h | h
        · cases h
        · exact .inr ⟨rfl, h⟩
      · exact .inl rfl
    rcases hq with rfl | ⟨rfl, h9⟩
    · clear hbig
      go_wp2_with fail
      (with_reducible refine (LG.out _).mono ?_); rintro e w1 ⟨rfl, hb1⟩
      have HB1 := Lib.hid (bl_trans HS.out.1 hb1)
      clear hb1 LG k0 k1 k2 HS
      go_wp2_with fail
      (with_reducible refine (KN.out _ (HT.out.below HB1.out)).mono ?_); rintro e w2 ⟨rfl, hb2⟩
      have HB := Lib.hid (bl_trans HB1.out hb2)
      clear hb2 HB1
      go_wp2_with fail
      go_ret
      exact ⟨rfl, HB.out⟩
    · have h9' : ((9000 : Int) < (s.size : Int)) = True := eq_true (by omega)
      clear hbig
      go_wp2_with fail
      (with_reducible refine (LG.out _).mono ?_); rintro e w1 ⟨rfl, hb1⟩
      have HB1 := Lib.hid (bl_trans HS.out.1 hb1)
      clear hb1 LG k0 k1 k2 HS
      go_wp2_with fail
      (with_reducible refine (KN.out _ (HT.out.below HB1.out)).mono ?_); rintro e w2 ⟨rfl, hb2⟩
      have HB := Lib.hid (bl_trans HB1.out hb2)
      clear hb2 HB1
      go_wp2_with fail
      go_ret
      exact ⟨rfl, HB.out⟩
  obtain rfl : B = false := by
    cases B
    · rfl
    · exact absurd (.inl rfl) hbig
  have h9 : s.size ≤ 9000 := by omega
  have H9 := Lib.hid h9
  have h9' : ((9000 : Int) < (s.size : Int)) = False := eq_false (by omega)
  have hlen : p.length ≤ 300 ∧ l.length ≤ 500 ∧ i.length ≤ 500 := by
    simp at hB
    omega
  have HA := Lib.hid (HA0.out (by omega) (by omega) (by omega))
  clear hB HA0 hlen hbig h9
  go_wp2_with fail
  (with_reducible refine (LG.out _).mono ?_); rintro e w1 ⟨rfl, hb1⟩
  replace HS := Lib.hid (show Below w.heap.size w w1 ∧ Var w1 g1 [.slice ap p.length cp, .slice al l.length cl, .slice ai i.length ci] from ⟨bl_trans HS.out.1 hb1, HS.out.2.below hb1⟩)
  clear hb1 LG k0 k1 k2
  obtain ⟨k0, k1, k2⟩ := HS.out.2.three6
  have HP1 := Lib.hid (HA.out.below HS.out.1)
  have HTab := Lib.hid (HT.out.below HS.out.1)
  obtain ⟨c, hc⟩ : ∃ c, okI5 p l i = c := ⟨_, rfl⟩
  obtain ⟨⟨Q, at', er⟩, hq⟩ : ∃ z, prog5 s = z := ⟨_, rfl⟩
  have HQ := Lib.hid hq
  clear hq
  cases c
  case false =>
    have PR := Lib.hid (print_no5 HP1.out HTab.out hc)
    have hf : firstE5 p l i = 2 := by unfold firstE5; rw [hc]; rfl
    have HF := Lib.hid hf
    clear hc hf
    go_wp2_with fail
    (with_reducible refine PR.out.mono ?_); rintro e w2 ⟨rfl, hb2⟩
    replace HS := Lib.hid (show Below w.heap.size w _ ∧ Var _ g1 [.slice ap p.length cp, .slice al l.length cl, .slice ai i.length ci] from ⟨bl_trans HS.out.1 hb2, HS.out.2.below hb2⟩)
    clear hb2 PR HP1 HTab k0 k1 k2
    obtain ⟨k0, k1, k2⟩ := HS.out.2.three6
    have CK := Lib.hid (check_l5 p l i ap al ai cp cl ci _ (HA.out.below HS.out.1))
    rw [HF.out] at CK
    clear HF
    go_wp2_with fail
    (with_reducible refine CK.out.mono ?_); rintro e w3 ⟨rfl, hb3⟩
    replace HS := Lib.hid (show Below w.heap.size w _ ∧ Var _ g1 [.slice ap p.length cp, .slice al l.length cl, .slice ai i.length ci] from ⟨bl_trans HS.out.1 hb3, HS.out.2.below hb3⟩)
    clear hb3 CK k0 k1 k2
    have PA := Lib.hid (parse_b5 s (by have := H9.out; omega) ad cb _ (HB0.out.below HS.out.1) HQ.out)
    go_wp2_with fail
    (with_reducible refine PA.out.mono ?_); rintro e w11 ⟨ap2, cp2, al2, cl2, ai2, ci2, rfl, hq6, hb6⟩
    have HB6 := Lib.hid (bl_trans HS.out.1 hb6)
    have HQ6 := Lib.hid hq6
    clear hb6 hq6 PA HS
    dsimp only
    obtain ⟨g4, hg4⟩ : ∃ g, w11.heap.size = g := ⟨_, rfl⟩
    go_upto_region 11 with (fail)
    refine wp_abs (fun V => Below w.heap.size w V ∧ Var V g4 [.slice ap2 Q.p.length cp2, .slice al2 Q.l.length cl2, .slice ai2 Q.i.length ci2] ∧ Pol5 V ap2 al2 ai2 cp2 cl2 ci2 Q.p Q.l Q.i) ?_ ?_
    · exact ⟨bl_trans HB6.out (by repeat (first | (with_reducible exact Below.refl _ _) | (with_reducible refine bl_alloc ?_ _) | (with_reducible refine Below.drew ?_) | (with_reducible refine below_drewN' ?_ _) | ((with_reducible refine bl_set ?_ ?_ _); (rotate_left; (dsimp only; omega))))), var3o_new _ _ _ _ _ _ hg4.symm, HQ6.out.below (by repeat (first | (with_reducible exact Below.refl _ _) | (with_reducible refine bl_alloc ?_ _) | (with_reducible refine Below.drew ?_) | (with_reducible refine below_drewN' ?_ _) | ((with_reducible refine bl_set ?_ ?_ _); (rotate_left; (dsimp only; omega)))))⟩
    rintro W12 hS12
    have HS := Lib.hid hS12
    try rw [hg4]
    clear hS12 hg4 HQ6 HB6
    obtain ⟨x0, x1, x2⟩ := HS.out.2.1.three6
    by_cases he : er = 0
    · subst he
      have hok := prog_ok5 s (by rw [HQ.out])
      rw [HQ.out] at hok
      obtain ⟨hok, ha⟩ := hok
      dsimp only at ha hok
      subst ha
      have HOK := Lib.hid hok
      have PR := Lib.hid (print_ok5 HS.out.2.2 (HT.out.below HS.out.1) hok)
      clear hok
      go_wp2_with fail
      (with_reducible refine PR.out.mono ?_); rintro e w13 ⟨s2, rfl, hs2, hb2⟩
      have HS2 := Lib.hid hs2
      replace HS := Lib.hid (show Below w.heap.size w w13 ∧ Var w13 g4 [.slice ap2 Q.p.length cp2, .slice al2 Q.l.length cl2, .slice ai2 Q.i.length ci2] ∧ Pol5 w13 ap2 al2 ai2 cp2 cl2 ci2 Q.p Q.l Q.i from ⟨bl_trans HS.out.1 hb2, HS.out.2.1.below hb2, HS.out.2.2.below hb2⟩)
      clear hb2 hs2 PR x0 x1 x2
      obtain ⟨w14, cp5, hcv, hb5, hB5⟩ := bytes_of5 s2 w13
      have PA := Lib.hid (parse_t5 HOK.out s2 HS2.out _ cp5 w14 hB5)
      replace HS := Lib.hid (show Below w.heap.size w w14 ∧ Var w14 g4 [.slice ap2 Q.p.length cp2, .slice al2 Q.l.length cl2, .slice ai2 Q.i.length ci2] ∧ Pol5 w14 ap2 al2 ai2 cp2 cl2 ci2 Q.p Q.l Q.i from ⟨bl_trans HS.out.1 hb5, HS.out.2.1.below hb5, HS.out.2.2.below hb5⟩)
      clear hb5 hB5 HS2
      go_wp2_with fail
      (with_reducible refine PA.out.mono ?_); rintro e w15 ⟨ap3, cp3, al3, cl3, ai3, ci3, rfl, hq6, hb6⟩
      have HQ7 := Lib.hid hq6
      replace HS := Lib.hid (show Below w.heap.size w w15 ∧ Var w15 g4 [.slice ap2 Q.p.length cp2, .slice al2 Q.l.length cl2, .slice ai2 Q.i.length ci2] ∧ Pol5 w15 ap2 al2 ai2 cp2 cl2 ci2 Q.p Q.l Q.i from ⟨bl_trans HS.out.1 hb6, HS.out.2.1.below hb6, HS.out.2.2.below hb6⟩)
      clear hb6 hq6 PA hcv
      dsimp only
      obtain ⟨g5, hg5⟩ : ∃ g, w15.heap.size = g := ⟨_, rfl⟩
      go_upto_region 15 with (fail)
      refine wp_abs (fun V => Below w.heap.size w V ∧ Var V g4 [.slice ap2 Q.p.length cp2, .slice al2 Q.l.length cl2, .slice ai2 Q.i.length ci2] ∧ Pol5 V ap2 al2 ai2 cp2 cl2 ci2 Q.p Q.l Q.i ∧ Var V g5 [.slice ap3 Q.p.length cp3, .slice al3 Q.l.length cl3, .slice ai3 Q.i.length ci3] ∧ Pol5 V ap3 al3 ai3 cp3 cl3 ci3 Q.p Q.l Q.i) ?_ ?_
      · exact ⟨bl_trans HS.out.1 (by repeat (first | (with_reducible exact Below.refl _ _) | (with_reducible refine bl_alloc ?_ _) | (with_reducible refine Below.drew ?_) | (with_reducible refine below_drewN' ?_ _) | ((with_reducible refine bl_set ?_ ?_ _); (rotate_left; (dsimp only; omega))))), HS.out.2.1.below (by repeat (first | (with_reducible exact Below.refl _ _) | (with_reducible refine bl_alloc ?_ _) | (with_reducible refine Below.drew ?_) | (with_reducible refine below_drewN' ?_ _) | ((with_reducible refine bl_set ?_ ?_ _); (rotate_left; (dsimp only; omega))))), HS.out.2.2.below (by repeat (first | (with_reducible exact Below.refl _ _) | (with_reducible refine bl_alloc ?_ _) | (with_reducible refine Below.drew ?_) | (with_reducible refine below_drewN' ?_ _) | ((with_reducible refine bl_set ?_ ?_ _); (rotate_left; (dsimp only; omega))))), var3o_new _ _ _ _ _ _ hg5.symm, HQ7.out.below (by repeat (first | (with_reducible exact Below.refl _ _) | (with_reducible refine bl_alloc ?_ _) | (with_reducible refine Below.drew ?_) | (with_reducible refine below_drewN' ?_ _) | ((with_reducible refine bl_set ?_ ?_ _); (rotate_left; (dsimp only; omega)))))⟩
      rintro W16 hS16
      have HS6 := Lib.hid hS16
      try rw [hg5]
      clear hS16 hg5 HQ7 HS
      obtain ⟨x0, x1, x2⟩ := HS6.out.2.1.three6
      have hf : firstE5 Q.p Q.l Q.i = 0 := by unfold firstE5; rw [HOK.out]; rfl
      have CK := Lib.hid (check_l5 Q.p Q.l Q.i ap2 al2 ai2 cp2 cl2 ci2 W16 HS6.out.2.2.1)
      rw [hf] at CK
      clear hf
      go_wp2_with fail
      (with_reducible refine CK.out.mono ?_); rintro e w17 ⟨rfl, hb7⟩
      replace HS6 := Lib.hid (show Below w.heap.size w w17 ∧ Var w17 g4 [.slice ap2 Q.p.length cp2, .slice al2 Q.l.length cl2, .slice ai2 Q.i.length ci2] ∧ Pol5 w17 ap2 al2 ai2 cp2 cl2 ci2 Q.p Q.l Q.i ∧ Var w17 g5 [.slice ap3 Q.p.length cp3, .slice al3 Q.l.length cl3, .slice ai3 Q.i.length ci3] ∧ Pol5 w17 ap3 al3 ai3 cp3 cl3 ci3 Q.p Q.l Q.i from
        ⟨bl_trans HS6.out.1 hb7, HS6.out.2.1.below hb7, HS6.out.2.2.1.below hb7, HS6.out.2.2.2.1.below hb7, HS6.out.2.2.2.2.below hb7⟩)
      clear hb7 CK x0 x1 x2
      obtain ⟨x0, x1, x2⟩ := HS6.out.2.1.three6
      obtain ⟨y0, y1, y2⟩ := HS6.out.2.2.2.1.three6
      have SM := Lib.hid (same_l5 Q.p Q.l Q.i Q.p Q.l Q.i ap2 al2 ai2 ap3 al3 ai3 cp2 cl2 ci2 cp3 cl3 ci3 w17 HS6.out.2.2.1 HS6.out.2.2.2.2)
      rw [show (decide (Q.p = Q.p) && decide (Q.l = Q.l) && decide (Q.i = Q.i)) = true by simp] at SM
      go_wp2_with fail
      (with_reducible refine SM.out.mono ?_); rintro e w18 ⟨rfl, hb8⟩
      have HB8 := Lib.hid (bl_trans HS6.out.1 hb8)
      clear hb8 SM x0 x1 x2 y0 y1 y2 HS6
      go_wp2_with fail
      (with_reducible refine (KN.out _ (HT.out.below HB8.out)).mono ?_); rintro e w19 ⟨rfl, hb9⟩
      have HB9 := Lib.hid (bl_trans HB8.out hb9)
      clear hb9 HB8
      go_wp2_with fail
      go_ret
      exact ⟨rfl, HB9.out⟩
    · have hz := prog_at5 s (by rw [HQ.out]; exact he)
      have hz2 := ((prog_go5 s).2.2 (by rw [HQ.out]; exact he)).1
      rw [HQ.out] at hz hz2
      dsimp only at hz hz2
      subst hz2
      have z1 : ((0 : Int) ≤ at') = True := eq_true hz.1
      have z2 : (at' ≤ (s.size : Int)) = True := eq_true hz.2
      have z3 : (er == 0) = false := beq_eq_false_iff_ne.2 he
      have z4 : (er != 0) = true := by unfold bne; rw [z3]; rfl
      have z5 : (er = 0) = False := eq_false he
      clear hz he
      simp only [List.length_nil] at x0 x1 x2
      go_wp2_with fail
      (with_reducible refine (KN.out _ (HT.out.below HS.out.1)).mono ?_); rintro e w19 ⟨rfl, hb9⟩
      have HB9 := Lib.hid (bl_trans HS.out.1 hb9)
      clear hb9 HS x0 x1 x2
      go_wp2_with fail
      go_ret
      exact ⟨rfl, HB9.out⟩
  case true =>
    have PR := Lib.hid (print_ok5 HP1.out HTab.out hc)
    have hf : firstE5 p l i = 0 := by unfold firstE5; rw [hc]; rfl
    have HF := Lib.hid hf
    have HC := Lib.hid hc
    clear hc hf
    go_wp2_with fail
    (with_reducible refine PR.out.mono ?_); rintro e w2 ⟨s1, rfl, hs1, hb2⟩
    have HS1 := Lib.hid hs1
    replace HS := Lib.hid (show Below w.heap.size w _ ∧ Var _ g1 [.slice ap p.length cp, .slice al l.length cl, .slice ai i.length ci] from ⟨bl_trans HS.out.1 hb2, HS.out.2.below hb2⟩)
    clear hb2 hs1 PR HP1 HTab k0 k1 k2
    obtain ⟨k0, k1, k2⟩ := HS.out.2.three6
    have CK := Lib.hid (check_l5 p l i ap al ai cp cl ci _ (HA.out.below HS.out.1))
    rw [HF.out] at CK
    clear HF
    go_wp2_with fail
    (with_reducible refine CK.out.mono ?_); rintro e w3 ⟨rfl, hb3⟩
    replace HS := Lib.hid (show Below w.heap.size w _ ∧ Var _ g1 [.slice ap p.length cp, .slice al l.length cl, .slice ai i.length ci] from ⟨bl_trans HS.out.1 hb3, HS.out.2.below hb3⟩)
    clear hb3 CK k0 k1 k2
    obtain ⟨w5, cp5, hcv, hb5, hB5⟩ := bytes_of5 s1 w3
    have PA := Lib.hid (parse_t5 HC.out s1 HS1.out _ cp5 w5 hB5)
    replace HS := Lib.hid (show Below w.heap.size w _ ∧ Var _ g1 [.slice ap p.length cp, .slice al l.length cl, .slice ai i.length ci] from ⟨bl_trans HS.out.1 hb5, HS.out.2.below hb5⟩)
    clear hb5 hB5 HS1
    go_wp2_with fail
    (with_reducible refine PA.out.mono ?_); rintro e w6 ⟨ap2, cp2, al2, cl2, ai2, ci2, rfl, hq6, hb6⟩
    replace HS := Lib.hid (show Below w.heap.size w _ ∧ Var _ g1 [.slice ap p.length cp, .slice al l.length cl, .slice ai i.length ci] from ⟨bl_trans HS.out.1 hb6, HS.out.2.below hb6⟩)
    have HQ6 := Lib.hid hq6
    clear hb6 hq6 PA hcv
    dsimp only
    obtain ⟨g3, hg3⟩ : ∃ g, w6.heap.size = g := ⟨_, rfl⟩
    go_upto_region 8 with (fail)
    refine wp_abs (fun V => Below w.heap.size w V ∧ Var V g1 [.slice ap p.length cp, .slice al l.length cl, .slice ai i.length ci] ∧ Var V g3 [.slice ap2 p.length cp2, .slice al2 l.length cl2, .slice ai2 i.length ci2] ∧ Pol5 V ap2 al2 ai2 cp2 cl2 ci2 p l i) ?_ ?_
    · exact ⟨bl_trans HS.out.1 (by repeat (first | (with_reducible exact Below.refl _ _) | (with_reducible refine bl_alloc ?_ _) | (with_reducible refine Below.drew ?_) | (with_reducible refine below_drewN' ?_ _) | ((with_reducible refine bl_set ?_ ?_ _); (rotate_left; (dsimp only; omega))))), HS.out.2.below (by repeat (first | (with_reducible exact Below.refl _ _) | (with_reducible refine bl_alloc ?_ _) | (with_reducible refine Below.drew ?_) | (with_reducible refine below_drewN' ?_ _) | ((with_reducible refine bl_set ?_ ?_ _); (rotate_left; (dsimp only; omega))))), var3o_new _ _ _ _ _ _ hg3.symm, HQ6.out.below (by repeat (first | (with_reducible exact Below.refl _ _) | (with_reducible refine bl_alloc ?_ _) | (with_reducible refine Below.drew ?_) | (with_reducible refine below_drewN' ?_ _) | ((with_reducible refine bl_set ?_ ?_ _); (rotate_left; (dsimp only; omega)))))⟩
    rintro W7 hS7
    have HS7 := Lib.hid hS7
    try rw [hg3]
    clear hS7 hg3 HQ6 HS
    obtain ⟨k0, k1, k2⟩ := HS7.out.2.1.three6
    obtain ⟨x0, x1, x2⟩ := HS7.out.2.2.1.three6
    have SM := Lib.hid (same_l5 p l i p l i ap al ai ap2 al2 ai2 cp cl ci cp2 cl2 ci2 W7 (HA.out.below HS7.out.1) HS7.out.2.2.2)
    rw [show (decide (p = p) && decide (l = l) && decide (i = i)) = true by simp] at SM
    go_wp2_with fail
    (with_reducible refine SM.out.mono ?_); rintro e w8 ⟨rfl, hb8⟩
    have HS := Lib.hid (show Below w.heap.size w w8 ∧ Var w8 g1 [.slice ap p.length cp, .slice al l.length cl, .slice ai i.length ci] from ⟨bl_trans HS7.out.1 hb8, HS7.out.2.1.below hb8⟩)
    clear hb8 SM k0 k1 k2 x0 x1 x2 HS7
    have PA := Lib.hid (parse_b5 s (by have := H9.out; omega) ad cb _ (HB0.out.below HS.out.1) HQ.out)
    go_wp2_with fail
    (with_reducible refine PA.out.mono ?_); rintro e w11 ⟨ap2, cp2, al2, cl2, ai2, ci2, rfl, hq6, hb6⟩
    have HB6 := Lib.hid (bl_trans HS.out.1 hb6)
    have HQ6 := Lib.hid hq6
    clear hb6 hq6 PA HS
    dsimp only
    obtain ⟨g4, hg4⟩ : ∃ g, w11.heap.size = g := ⟨_, rfl⟩
    go_upto_region 11 with (fail)
    refine wp_abs (fun V => Below w.heap.size w V ∧ Var V g4 [.slice ap2 Q.p.length cp2, .slice al2 Q.l.length cl2, .slice ai2 Q.i.length ci2] ∧ Pol5 V ap2 al2 ai2 cp2 cl2 ci2 Q.p Q.l Q.i) ?_ ?_
    · exact ⟨bl_trans HB6.out (by repeat (first | (with_reducible exact Below.refl _ _) | (with_reducible refine bl_alloc ?_ _) | (with_reducible refine Below.drew ?_) | (with_reducible refine below_drewN' ?_ _) | ((with_reducible refine bl_set ?_ ?_ _); (rotate_left; (dsimp only; omega))))), var3o_new _ _ _ _ _ _ hg4.symm, HQ6.out.below (by repeat (first | (with_reducible exact Below.refl _ _) | (with_reducible refine bl_alloc ?_ _) | (with_reducible refine Below.drew ?_) | (with_reducible refine below_drewN' ?_ _) | ((with_reducible refine bl_set ?_ ?_ _); (rotate_left; (dsimp only; omega)))))⟩
    rintro W12 hS12
    have HS := Lib.hid hS12
    try rw [hg4]
    clear hS12 hg4 HQ6 HB6
    obtain ⟨x0, x1, x2⟩ := HS.out.2.1.three6
    by_cases he : er = 0
    · subst he
      have hok := prog_ok5 s (by rw [HQ.out])
      rw [HQ.out] at hok
      obtain ⟨hok, ha⟩ := hok
      dsimp only at ha hok
      subst ha
      have HOK := Lib.hid hok
      have PR := Lib.hid (print_ok5 HS.out.2.2 (HT.out.below HS.out.1) hok)
      clear hok
      go_wp2_with fail
      (with_reducible refine PR.out.mono ?_); rintro e w13 ⟨s2, rfl, hs2, hb2⟩
      have HS2 := Lib.hid hs2
      replace HS := Lib.hid (show Below w.heap.size w w13 ∧ Var w13 g4 [.slice ap2 Q.p.length cp2, .slice al2 Q.l.length cl2, .slice ai2 Q.i.length ci2] ∧ Pol5 w13 ap2 al2 ai2 cp2 cl2 ci2 Q.p Q.l Q.i from ⟨bl_trans HS.out.1 hb2, HS.out.2.1.below hb2, HS.out.2.2.below hb2⟩)
      clear hb2 hs2 PR x0 x1 x2
      obtain ⟨w14, cp5, hcv, hb5, hB5⟩ := bytes_of5 s2 w13
      have PA := Lib.hid (parse_t5 HOK.out s2 HS2.out _ cp5 w14 hB5)
      replace HS := Lib.hid (show Below w.heap.size w w14 ∧ Var w14 g4 [.slice ap2 Q.p.length cp2, .slice al2 Q.l.length cl2, .slice ai2 Q.i.length ci2] ∧ Pol5 w14 ap2 al2 ai2 cp2 cl2 ci2 Q.p Q.l Q.i from ⟨bl_trans HS.out.1 hb5, HS.out.2.1.below hb5, HS.out.2.2.below hb5⟩)
      clear hb5 hB5 HS2
      go_wp2_with fail
      (with_reducible refine PA.out.mono ?_); rintro e w15 ⟨ap3, cp3, al3, cl3, ai3, ci3, rfl, hq6, hb6⟩
      have HQ7 := Lib.hid hq6
      replace HS := Lib.hid (show Below w.heap.size w w15 ∧ Var w15 g4 [.slice ap2 Q.p.length cp2, .slice al2 Q.l.length cl2, .slice ai2 Q.i.length ci2] ∧ Pol5 w15 ap2 al2 ai2 cp2 cl2 ci2 Q.p Q.l Q.i from ⟨bl_trans HS.out.1 hb6, HS.out.2.1.below hb6, HS.out.2.2.below hb6⟩)
      clear hb6 hq6 PA hcv
      dsimp only
      obtain ⟨g5, hg5⟩ : ∃ g, w15.heap.size = g := ⟨_, rfl⟩
      go_upto_region 15 with (fail)
      refine wp_abs (fun V => Below w.heap.size w V ∧ Var V g4 [.slice ap2 Q.p.length cp2, .slice al2 Q.l.length cl2, .slice ai2 Q.i.length ci2] ∧ Pol5 V ap2 al2 ai2 cp2 cl2 ci2 Q.p Q.l Q.i ∧ Var V g5 [.slice ap3 Q.p.length cp3, .slice al3 Q.l.length cl3, .slice ai3 Q.i.length ci3] ∧ Pol5 V ap3 al3 ai3 cp3 cl3 ci3 Q.p Q.l Q.i) ?_ ?_
      · exact ⟨bl_trans HS.out.1 (by repeat (first | (with_reducible exact Below.refl _ _) | (with_reducible refine bl_alloc ?_ _) | (with_reducible refine Below.drew ?_) | (with_reducible refine below_drewN' ?_ _) | ((with_reducible refine bl_set ?_ ?_ _); (rotate_left; (dsimp only; omega))))), HS.out.2.1.below (by repeat (first | (with_reducible exact Below.refl _ _) | (with_reducible refine bl_alloc ?_ _) | (with_reducible refine Below.drew ?_) | (with_reducible refine below_drewN' ?_ _) | ((with_reducible refine bl_set ?_ ?_ _); (rotate_left; (dsimp only; omega))))), HS.out.2.2.below (by repeat (first | (with_reducible exact Below.refl _ _) | (with_reducible refine bl_alloc ?_ _) | (with_reducible refine Below.drew ?_) | (with_reducible refine below_drewN' ?_ _) | ((with_reducible refine bl_set ?_ ?_ _); (rotate_left; (dsimp only; omega))))), var3o_new _ _ _ _ _ _ hg5.symm, HQ7.out.below (by repeat (first | (with_reducible exact Below.refl _ _) | (with_reducible refine bl_alloc ?_ _) | (with_reducible refine Below.drew ?_) | (with_reducible refine below_drewN' ?_ _) | ((with_reducible refine bl_set ?_ ?_ _); (rotate_left; (dsimp only; omega)))))⟩
      rintro W16 hS16
      have HS6 := Lib.hid hS16
      try rw [hg5]
      clear hS16 hg5 HQ7 HS
      obtain ⟨x0, x1, x2⟩ := HS6.out.2.1.three6
      have hf : firstE5 Q.p Q.l Q.i = 0 := by unfold firstE5; rw [HOK.out]; rfl
      have CK := Lib.hid (check_l5 Q.p Q.l Q.i ap2 al2 ai2 cp2 cl2 ci2 W16 HS6.out.2.2.1)
      rw [hf] at CK
      clear hf
      go_wp2_with fail
      (with_reducible refine CK.out.mono ?_); rintro e w17 ⟨rfl, hb7⟩
      replace HS6 := Lib.hid (show Below w.heap.size w w17 ∧ Var w17 g4 [.slice ap2 Q.p.length cp2, .slice al2 Q.l.length cl2, .slice ai2 Q.i.length ci2] ∧ Pol5 w17 ap2 al2 ai2 cp2 cl2 ci2 Q.p Q.l Q.i ∧ Var w17 g5 [.slice ap3 Q.p.length cp3, .slice al3 Q.l.length cl3, .slice ai3 Q.i.length ci3] ∧ Pol5 w17 ap3 al3 ai3 cp3 cl3 ci3 Q.p Q.l Q.i from
        ⟨bl_trans HS6.out.1 hb7, HS6.out.2.1.below hb7, HS6.out.2.2.1.below hb7, HS6.out.2.2.2.1.below hb7, HS6.out.2.2.2.2.below hb7⟩)
      clear hb7 CK x0 x1 x2
      obtain ⟨x0, x1, x2⟩ := HS6.out.2.1.three6
      obtain ⟨y0, y1, y2⟩ := HS6.out.2.2.2.1.three6
      have SM := Lib.hid (same_l5 Q.p Q.l Q.i Q.p Q.l Q.i ap2 al2 ai2 ap3 al3 ai3 cp2 cl2 ci2 cp3 cl3 ci3 w17 HS6.out.2.2.1 HS6.out.2.2.2.2)
      rw [show (decide (Q.p = Q.p) && decide (Q.l = Q.l) && decide (Q.i = Q.i)) = true by simp] at SM
      go_wp2_with fail
      (with_reducible refine SM.out.mono ?_); rintro e w18 ⟨rfl, hb8⟩
      have HB8 := Lib.hid (bl_trans HS6.out.1 hb8)
      clear hb8 SM x0 x1 x2 y0 y1 y2 HS6
      go_wp2_with fail
      (with_reducible refine (KN.out _ (HT.out.below HB8.out)).mono ?_); rintro e w19 ⟨rfl, hb9⟩
      have HB9 := Lib.hid (bl_trans HB8.out hb9)
      clear hb9 HB8
      go_wp2_with fail
      go_ret
      exact ⟨rfl, HB9.out⟩
    · have hz := prog_at5 s (by rw [HQ.out]; exact he)
      have hz2 := ((prog_go5 s).2.2 (by rw [HQ.out]; exact he)).1
      rw [HQ.out] at hz hz2
      dsimp only at hz hz2
      subst hz2
      have z1 : ((0 : Int) ≤ at') = True := eq_true hz.1
      have z2 : (at' ≤ (s.size : Int)) = True := eq_true hz.2
      have z3 : (er == 0) = false := beq_eq_false_iff_ne.2 he
      have z4 : (er != 0) = true := by unfold bne; rw [z3]; rfl
      have z5 : (er = 0) = False := eq_false he
      clear hz he
      simp only [List.length_nil] at x0 x1 x2
      go_wp2_with fail
      (with_reducible refine (KN.out _ (HT.out.below HS.out.1)).mono ?_); rintro e w19 ⟨rfl, hb9⟩
      have HB9 := Lib.hid (bl_trans HS.out.1 hb9)
      clear hb9 HS x0 x1 x2
      go_wp2_with fail
      go_ret
      exact ⟨rfl, HB9.out⟩
end Go.Proofs.YtdpbmkfgolemjaaDoor
