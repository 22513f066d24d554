/-
  The walk of the law ValidHurt, part 4.
-/
import Derived.Test.YtpjaefcmaiimlaaVHurtC
set_option linter.unusedVariables false
set_option linter.unusedSimpArgs false
set_option linter.deprecated false
namespace Go.Proofs.Ytpjaefcmaiimlaa
open Go.RowKit

set_option maxHeartbeats 16000000 in
set_option maxRecDepth 100000 in
theorem vhD (p l i : List Pt) (gp op gm om : Nat) (ai : Option Addr) (cp cl ci : Nat) (w : World) (hA0 : Hid (p.length ≤ 10000 → l.length ≤ 10000 → i.length ≤ 10000 → Pol w (some ⟨gp, op, none⟩) (some ⟨gm, om, none⟩) ai cp cl ci p l i)) (h3p : Hid (3 ≤ p.length)) (h3l : Hid (3 ≤ l.length)) (t : Int) : (vhC p l i gp op gm om ai cp cl ci w hA0 h3p h3l t).val := by
  intro m g5 gy g8 G11 G12 gz g11 G21 G22 W7 gw au av ax cu cv cx M aM cM wc K0 aK0 KN HC HA HFew HPol HCp HB HV G1 G2 h1 h2 hcut
  intros
  have hO := hcut
  obtain ⟨W8, eW8⟩ : ∃ W, W = wc := ⟨_, rfl⟩
  subst eW8
  have hc1 : ChkOk p M i := h1
  have hk1 : (flTo p M i 8).k = 5 := h2
  obtain ⟨bu, bv, bx, du, dv, dx, e0, e1, e2, hPol⟩ := hO.pol (by have := hc1.n; omega) (by have := hc1.nl; omega) (by have := hc1.ni; omega)
  first | subst e0 | cases e0
  first | subst e1 | cases e1
  first | subst e2 | cases e2
  obtain ⟨⟨G30, G31, G32⟩, hf1⟩ : ∃ f, flTo p M i 8 = f := ⟨_, rfl⟩
  rw [hf1] at hk1
  obtain rfl : G30 = 5 := hk1

  have HY1 : Hid (firstF p M i = ⟨5, G31, G32⟩) := by unfold Hid firstF; rw [if_pos (checkB_iff.2 hc1)]; exact hf1
  have HY2 : Hid (firstE p M i = 0) := by unfold Hid firstE; rw [if_pos (checkB_iff.2 hc1)]
  have hF := first10_l _ _ _ _ _ _ _ _ _ _ hPol
  rw [HY1.out, HY2.out] at hF
  try simp only [List.length_nil] at hF
  have HF := Lib.hid hF
  clear hF
  have hbO := hO.o.hb
  replace HB := Lib.hid (bl_trans HB.out hbO)
  replace HV := Lib.hid (HV.out.below hbO)
  replace G1 := Lib.hid (G1.out.below hbO)
  replace G2 := Lib.hid (G2.out.below hbO)
  obtain ⟨x0, x1, x2⟩ := hO.var.three
  clear hc1 hf1 HY1 HY2 hPol hO hbO
  go_wp2_with fail
  (with_reducible refine HF.out.mono ?_); rintro e w21 ⟨rfl, hb7⟩
  dsimp only
  replace HB := Lib.hid (bl_trans HB.out hb7)
  replace HV := Lib.hid (HV.out.below hb7)
  replace G1 := Lib.hid (G1.out.below hb7)
  replace G2 := Lib.hid (G2.out.below hb7)
  clear hb7 HF x0 x1 x2
  go_upto_region 19 with (fail)
  have G3 := Lib.hid (var3_new w21 (.int .i64 5) (.int .i64 G31) (.int .i64 G32) 42 w21.heap.size rfl)

  replace HB := Lib.hid (bl_trans HB.out (bl_one w21 (.cells #[.int .i64 5, .int .i64 G31, .int .i64 G32] 42)))
  replace HV := Lib.hid (HV.out.below (bl_one w21 (.cells #[.int .i64 5, .int .i64 G31, .int .i64 G32] 42)))
  replace G1 := Lib.hid (G1.out.below (bl_one w21 (.cells #[.int .i64 5, .int .i64 G31, .int .i64 G32] 42)))
  replace G2 := Lib.hid (G2.out.below (bl_one w21 (.cells #[.int .i64 5, .int .i64 G31, .int .i64 G32] 42)))
  generalize w21.alloc (.cells #[.int .i64 5, .int .i64 G31, .int .i64 G32] 42) = WD at *
  generalize w21.heap.size = g16 at *
  clear h1 h2
  obtain ⟨W9, eW9⟩ : ∃ W, W = WD := ⟨_, rfl⟩
  subst eW9
  obtain ⟨k0, k1, k2⟩ := HV.out.three
  go_wp2_with fail
  (with_reducible refine (HCp.out _ HB.out).mono ?_); rintro e w9 ⟨u, v, x, rfl, hO⟩
  obtain ⟨au, av, ax, cu, cv, cx, e0, e1, e2, -⟩ := hO.pol HPol.out.lenP HPol.out.lenL HPol.out.lenI
  subst e0 e1 e2
  go_upto_region 20 with (fail)
  clear k0 k1 k2
  have HO := Lib.hid (own_new hO)
  generalize w9.alloc (.cells #[.slice au p.length cu, .slice av l.length cv, .slice ax i.length cx] 38) = WA at *
  generalize w9.heap.size = gf at *
  clear hO
  go_upto_region 21 with (fail)
  have HT := Lib.hid (var2_new WA (.int .i64 1048576) (.int .i64 1048576) 49 WA.heap.size rfl)
  replace HO := Lib.hid (HO.out.below (bl_one WA (.cells #[.int .i64 1048576, .int .i64 1048576] 49)))
  generalize WA.alloc (.cells #[.int .i64 1048576, .int .i64 1048576] 49) = WC at *
  generalize WA.heap.size = gt at *
  obtain ⟨x0, x1, x2⟩ := HO.out.var.three
  obtain ⟨z0, z1⟩ := HT.out.two
  have HOa := Lib.hid (HO.out.below (bl_one WC (.cells #[.int .i64 1048576, .int .i64 1048576] 49)))
  go_wp2_with (at_builtin; refine app_pts10 rfl Try.underlying35 info_pt10 _ _ rfl rfl HOa.out.o.o0 rfl (L := [⟨1048576, 1048576⟩]) rfl (row1_new WC ⟨1048576, 1048576⟩ _) (fun h => by cases h) ?z1 ?_)
  case z1 => have := HFew.out; show p.length + 1 ≤ 1000000; omega
  intro u' W2 hO2 hg2 hloc2
  have hX4 := HOa.out.var.grown10 hg2 (fun k e e' => HOa.out.n0 (by rw [e, e']))
  have HO9 := Lib.hid (HOa.out.put0 hO2 hg2 (hloc2.imp id (fun e => by rw [e]; simp)))
  obtain ⟨a2, c2, ev2, -⟩ := hO2.slice
  subst ev2
  clear x0 x1 x2 z0 z1 hO2 hg2 hloc2 HOa HO HT
  have h1 : ChkOk (p ++ [⟨1048576, 1048576⟩]) l i := more_chk11 HC.out (by have := HFew.out; omega) (by decide)
  have h2 : (∀ a ∈ p, a.x < 1048576 ∧ a.y < 1048576) → (flTo (p ++ [⟨1048576, 1048576⟩]) l i 8).k = 8 := fun hq => hurt_far HC.out HA.out hq
  generalize p ++ [⟨1048576, 1048576⟩] = P at *
  obtain ⟨x0, x1, x2⟩ := hX4.three
  obtain ⟨y0, y1, y2⟩ := hX4.free3
  clear hX4
  go_upto_region 22 with (fail)
  clear x0 x1 x2 y0 y1 y2
  have hO := HO9.out
  clear HO9
  generalize W2.setCell ⟨gf, 0, none⟩ (.slice a2 P.length c2) = W8 at *
  have hc1 : ChkOk P l i := h1
  have hk1 : (∀ a ∈ p, a.x < 1048576 ∧ a.y < 1048576) → (flTo P l i 8).k = 8 := h2
  obtain ⟨bu, bv, bx, du, dv, dx, e0, e1, e2, hPol⟩ := hO.pol (by have := hc1.n; omega) (by have := hc1.nl; omega) (by have := hc1.ni; omega)
  first | subst e0 | cases e0
  first | subst e1 | cases e1
  first | subst e2 | cases e2
  obtain ⟨⟨G40, G41, G42⟩, hf1⟩ : ∃ f, flTo P l i 8 = f := ⟨_, rfl⟩
  rw [hf1] at hk1
  have HK4 := Lib.hid hk1
  clear hk1

  have HY1 : Hid (firstF P l i = ⟨G40, G41, G42⟩) := by unfold Hid firstF; rw [if_pos (checkB_iff.2 hc1)]; exact hf1
  have HY2 : Hid (firstE P l i = 0) := by unfold Hid firstE; rw [if_pos (checkB_iff.2 hc1)]
  have hF := first10_l _ _ _ _ _ _ _ _ _ _ hPol
  rw [HY1.out, HY2.out] at hF
  try simp only [List.length_nil] at hF
  have HF := Lib.hid hF
  clear hF
  have hbO := hO.o.hb
  replace HB := Lib.hid (bl_trans HB.out hbO)
  replace HV := Lib.hid (HV.out.below hbO)
  replace G1 := Lib.hid (G1.out.below hbO)
  replace G2 := Lib.hid (G2.out.below hbO)
  replace G3 := Lib.hid (G3.out.below hbO)
  obtain ⟨x0, x1, x2⟩ := hO.var.three
  clear hc1 hf1 HY1 HY2 hPol hO hbO
  go_wp2_with fail
  (with_reducible refine HF.out.mono ?_); rintro e w21 ⟨rfl, hb7⟩
  dsimp only
  replace HB := Lib.hid (bl_trans HB.out hb7)
  replace HV := Lib.hid (HV.out.below hb7)
  replace G1 := Lib.hid (G1.out.below hb7)
  replace G2 := Lib.hid (G2.out.below hb7)
  replace G3 := Lib.hid (G3.out.below hb7)
  clear hb7 HF x0 x1 x2
  go_upto_region 23 with (fail)
  have G4 := Lib.hid (var3_new w21 (.int .i64 G40) (.int .i64 G41) (.int .i64 G42) 42 w21.heap.size rfl)
  have LHV := Lib.hid HV.out.lt
  have LG1 := Lib.hid G1.out.lt
  have LG2 := Lib.hid G2.out.lt
  have LG3 := Lib.hid G3.out.lt
  replace HB := Lib.hid (bl_trans HB.out (bl_one w21 (.cells #[.int .i64 G40, .int .i64 G41, .int .i64 G42] 42)))
  replace HV := Lib.hid (HV.out.below (bl_one w21 (.cells #[.int .i64 G40, .int .i64 G41, .int .i64 G42] 42)))
  replace G1 := Lib.hid (G1.out.below (bl_one w21 (.cells #[.int .i64 G40, .int .i64 G41, .int .i64 G42] 42)))
  replace G2 := Lib.hid (G2.out.below (bl_one w21 (.cells #[.int .i64 G40, .int .i64 G41, .int .i64 G42] 42)))
  replace G3 := Lib.hid (G3.out.below (bl_one w21 (.cells #[.int .i64 G40, .int .i64 G41, .int .i64 G42] 42)))
  generalize w21.alloc (.cells #[.int .i64 G40, .int .i64 G41, .int .i64 G42] 42) = WD at *
  generalize w21.heap.size = g20 at *
  clear h1 h2
  obtain ⟨WE, eWE⟩ : ∃ W, W = WD := ⟨_, rfl⟩
  subst eWE
  go_wp2_with fail
  go_loopw [22] (fun iv W => ∃ j : Nat, j ≤ p.length ∧ iv = .int .i64 j ∧ Below g20 WE W ∧ ∃ kw : Int, Var W g20 [.int .i64 kw, .int .i64 G41, .int .i64 G42] ∧ (kw = 8 ∨ (kw = G40 ∧ ∀ a, a < j → (pget p a).x ≠ 1048576 ∧ (pget p a).y ≠ 1048576))) (fun iv _ => p.length - (intOf iv).toNat)
  case atStart => exact ⟨0, Nat.zero_le _, rfl, Below.refl _ _, G40, G4.out, .inr ⟨rfl, fun a h => absurd h (Nat.not_lt_zero _)⟩⟩
  case round =>
    obtain ⟨j, hj, rfl, hb, kw, hv, hk⟩ := hrel
    clear G4
    have G4 := Lib.hid hv
    have HBj := Lib.hid hb
    have HK := Lib.hid hk
    clear hb hv hk
    obtain ⟨k0, k1, k2⟩ := (HV.out.belowB HBj.out LHV.out).three
    have hp60 := HFew.out.1
    obtain ⟨n1, n3, n2, n4⟩ := wnum (i := j) (by omega)
    by_cases hlt : j < p.length
    · have b2 : ((j : Int) < (p.length : Int)) = True := eq_true (by omega)
      have d2 : (j < p.length) = True := eq_true hlt
      have c2 : ((0 : Int) ≤ (j : Int)) = True := eq_true (by omega)
      obtain ⟨⟨qx, qy⟩, hq⟩ : ∃ q, pget p j = q := ⟨_, rfl⟩
      have hbp : Below w.heap.size w wr := HB.out.trans (HBj.out.mono (Nat.le_of_lt LHV.out))
      obtain ⟨c0, c1⟩ := ptRow_at (HPol.out.pp.below hbp) hlt hq
      dsimp only at c0 c1
      have HQ := Lib.hid hq
      clear hq hbp
      obtain ⟨f0, f1, f2⟩ := G4.out.free3
      obtain ⟨h0, h1, h2⟩ := G4.out.three
      by_cases hx : qx = 1048576
      · subst hx
        go_wp2_with fail
        go_roundw
        case rel => exact ⟨j + 1, hlt, by simp, HBj.out.setCell (Nat.le_refl _) _, 8, G4.out.setAt10 (k := 0) (by simp) _, .inl rfl⟩
        case measure => simp [intOf] <;> omega
      · have x1 : (qx = 1048576) = False := eq_false hx
        have x1' : (qx == 1048576) = false := beq_eq_false_iff_ne.2 hx
        by_cases hy : qy = 1048576
        · subst hy
          go_wp2_with fail
          go_roundw
          case rel => exact ⟨j + 1, hlt, by simp, HBj.out.setCell (Nat.le_refl _) _, 8, G4.out.setAt10 (k := 0) (by simp) _, .inl rfl⟩
          case measure => simp [intOf] <;> omega
        · have y1 : (qy = 1048576) = False := eq_false hy
          have y1' : (qy == 1048576) = false := beq_eq_false_iff_ne.2 hy
          go_wp2_with fail
          go_roundw
          case rel =>
            refine ⟨j + 1, hlt, by simp, HBj.out, kw, G4.out, ?_⟩
            rcases HK.out with h | ⟨h, h'⟩
            · exact .inl h
            · refine .inr ⟨h, fun a ha => ?_⟩
              rcases Nat.lt_or_eq_of_le (Nat.le_of_lt_succ ha) with h3 | rfl
              · exact h' a h3
              · rw [HQ.out]; exact ⟨hx, hy⟩
          case measure => simp [intOf] <;> omega
    · have hjn : j = p.length := by omega
      have b2 : ((j : Int) < (p.length : Int)) = False := eq_false (by omega)
      have d2 : (j < p.length) = False := eq_false hlt
      have hk8 : kw = 8 := by
        rcases HK.out with h | ⟨h, h'⟩
        · exact h
        · rw [h]
          refine HK4.out fun q hq => ?_
          obtain ⟨a, ha, rfl⟩ := List.mem_iff_getElem.1 hq
          have h3 := h' a (by omega)
          rw [pget_getElem ha] at h3
          have h4 := place_iff.1 (HC.out.pl a ha)
          rw [pget_getElem ha] at h4
          omega
      subst hk8
      obtain ⟨WF, eWF⟩ : ∃ W, W = wr := ⟨_, rfl⟩
      subst eWF
      replace HB := Lib.hid (HB.out.trans (HBj.out.mono (Nat.le_of_lt LHV.out)))
      replace HV := Lib.hid (HV.out.belowB HBj.out LHV.out)
      replace G1 := Lib.hid (G1.out.belowB HBj.out LG1.out)
      replace G2 := Lib.hid (G2.out.belowB HBj.out LG2.out)
      replace G3 := Lib.hid (G3.out.belowB HBj.out LG3.out)
      clear HK HBj LHV LG1 LG2 LG3 hj HK4 hjn
      go_upto_region 28 with (fail)
      clear b2 d2 hlt k0 k1 k2 n1 n2 n3 n4
      obtain ⟨k0, k1, k2⟩ := HV.out.three
      go_wp2_with fail
      (with_reducible refine (HCp.out _ HB.out).mono ?_); rintro e w9 ⟨u, v, x, rfl, hO⟩
      obtain ⟨au, av, ax, cu, cv, cx, e0, e1, e2, -⟩ := hO.pol HPol.out.lenP HPol.out.lenL HPol.out.lenI
      subst e0 e1 e2
      go_upto_region 29 with (fail)
      clear k0 k1 k2
      have HO := Lib.hid (own_new hO)
      generalize w9.alloc (.cells #[.slice au p.length cu, .slice av l.length cv, .slice ax i.length cx] 38) = WA at *
      generalize w9.heap.size = gi at *
      clear hO
      obtain ⟨k0, k1, k2⟩ := (HV.out.below HO.out.o.hb).three
      have h1 : ChkOk p l (i.drop 1) := less_chk11 HC.out
      have h2 : (flTo p l (i.drop 1) 8).k = 0 := hurt_less HC.out HA.out
      by_cases hi0 : i.length = 0
      · have hi : i = [] := List.length_eq_zero_iff.1 hi0
        subst hi
        have hO := HO.out
        clear HO hi0
        go_upto_region 31 with (fail)
        clear k0 k1 k2
        have e0 : ([] : List Pt).drop 1 = [] := rfl
        rw [e0] at h1 h2
        clear e0
        have hc1 : ChkOk p l [] := h1
        have hk1 : (flTo p l [] 8).k = 0 := h2
        obtain ⟨bu, bv, bx, du, dv, dx, e0, e1, e2, hPol⟩ := hO.pol (by have := hc1.n; omega) (by have := hc1.nl; omega) (by have := hc1.ni; omega)
        first | subst e0 | cases e0
        first | subst e1 | cases e1
        first | subst e2 | cases e2
        obtain ⟨⟨G50, G51, G52⟩, hf1⟩ : ∃ f, flTo p l [] 8 = f := ⟨_, rfl⟩
        rw [hf1] at hk1
        obtain rfl : G50 = 0 := hk1

        have HY1 : Hid (firstF p l [] = ⟨0, G51, G52⟩) := by unfold Hid firstF; rw [if_pos (checkB_iff.2 hc1)]; exact hf1
        have HY2 : Hid (firstE p l [] = 0) := by unfold Hid firstE; rw [if_pos (checkB_iff.2 hc1)]
        have hF := first10_l _ _ _ _ _ _ _ _ _ _ hPol
        rw [HY1.out, HY2.out] at hF
        try simp only [List.length_nil] at hF
        have HF := Lib.hid hF
        clear hF
        have hbO := hO.o.hb
        replace HB := Lib.hid (bl_trans HB.out hbO)
        replace HV := Lib.hid (HV.out.below hbO)
        replace G1 := Lib.hid (G1.out.below hbO)
        replace G2 := Lib.hid (G2.out.below hbO)
        replace G3 := Lib.hid (G3.out.below hbO)
        replace G4 := Lib.hid (G4.out.below hbO)
        obtain ⟨x0, x1, x2⟩ := hO.var.three
        clear hc1 hf1 HY1 HY2 hPol hO hbO
        go_wp2_with fail
        (with_reducible refine HF.out.mono ?_); rintro e w21 ⟨rfl, hb7⟩
        dsimp only
        replace HB := Lib.hid (bl_trans HB.out hb7)
        replace HV := Lib.hid (HV.out.below hb7)
        replace G1 := Lib.hid (G1.out.below hb7)
        replace G2 := Lib.hid (G2.out.below hb7)
        replace G3 := Lib.hid (G3.out.below hb7)
        replace G4 := Lib.hid (G4.out.below hb7)
        clear hb7 HF x0 x1 x2
        go_upto_region 32 with (fail)
        have G5 := Lib.hid (var3_new w21 (.int .i64 0) (.int .i64 G51) (.int .i64 G52) 42 w21.heap.size rfl)

        replace HB := Lib.hid (bl_trans HB.out (bl_one w21 (.cells #[.int .i64 0, .int .i64 G51, .int .i64 G52] 42)))
        replace HV := Lib.hid (HV.out.below (bl_one w21 (.cells #[.int .i64 0, .int .i64 G51, .int .i64 G52] 42)))
        replace G1 := Lib.hid (G1.out.below (bl_one w21 (.cells #[.int .i64 0, .int .i64 G51, .int .i64 G52] 42)))
        replace G2 := Lib.hid (G2.out.below (bl_one w21 (.cells #[.int .i64 0, .int .i64 G51, .int .i64 G52] 42)))
        replace G3 := Lib.hid (G3.out.below (bl_one w21 (.cells #[.int .i64 0, .int .i64 G51, .int .i64 G52] 42)))
        replace G4 := Lib.hid (G4.out.below (bl_one w21 (.cells #[.int .i64 0, .int .i64 G51, .int .i64 G52] 42)))
        generalize w21.alloc (.cells #[.int .i64 0, .int .i64 G51, .int .i64 G52] 42) = WD at *
        generalize w21.heap.size = g24 at *

        obtain ⟨r0, r1, r2⟩ := G1.out.three
        obtain ⟨s0, s1, s2⟩ := G2.out.three
        obtain ⟨t0, t1, t2⟩ := G3.out.three
        obtain ⟨v0, v1, v2⟩ := G4.out.three
        obtain ⟨z0, z1, z2⟩ := G5.out.three
        go_wp2_with fail
        (with_reducible refine (KN.out _).mono ?_); rintro e w9 ⟨rfl, hb9⟩
        have HBz := Lib.hid (bl_trans HB.out hb9)
        clear hb9
        go_wp2_with fail
        go_ret
        exact ⟨rfl, HBz.out⟩
      · have hi1 : 1 ≤ i.length := by omega
        have b1 : ((0 : Int) < (i.length : Int)) = True := eq_true (by omega)
        have b2 : (0 < i.length) = True := eq_true (by omega)
        have b3 : (i = []) = False := eq_false (fun e => hi0 (by rw [e]; rfl))
        have b4 : ((1 : Int) ≤ (i.length : Int)) = True := eq_true (by omega)
        have b5 : (1 ≤ i.length) = True := eq_true hi1
        obtain ⟨ad, cap, e0, hcp, hrw, -⟩ := HO.out.o.o2.slice
        cases e0
        obtain ⟨gx, ox, rfl⟩ := hrw.some (by omega)
        have b6 : ((i.length : Int) ≤ (cx : Int)) = True := eq_true (by omega)
        have b7 : (i.length ≤ cx) = True := eq_true hcp
        have b8 : ((1 : Int) ≤ (cx : Int)) = True := eq_true (by omega)
        have b9 : (1 ≤ cx) = True := eq_true (by omega)
        have HRw := Lib.hid hrw
        have HCp2 := Lib.hid hcp
        have HI1 := Lib.hid hi1
        obtain ⟨x0, x1, x2⟩ := HO.out.var.three
        obtain ⟨y0, y1, y2⟩ := HO.out.var.free3
        clear hrw hcp hi1 hi0
        by_cases hck : cx = 1
        · have hl1 : i.length = 1 := by have := HCp2.out; have := HI1.out; omega
          have HL1 := Lib.hid hl1
          clear hl1
          subst hck
          have b10 : ((i.length : Int) ≤ 1) = True := eq_true (by have := HL1.out; omega)
          have b11 : (i.length ≤ 1) = True := eq_true (by have := HL1.out; omega)
          go_upto_region 31 with (fail)
          clear x0 x1 x2 y0 y1 y2 b1 b2 b3 b4 b5 b6 b7 b8 b9 b10 b11 k0 k1 k2
          have e0 : i.drop 1 = [] := List.drop_eq_nil_of_le (by have := HL1.out; omega)
          rw [e0] at h1 h2
          have hvar := HO.out.var.setAt10 (k := 2) (by simp) (.slice (some ⟨gx, ox, none⟩) 0 0)
          have hown := HO.out.o.set HO.out.hg HO.out.n0 HO.out.n1 HO.out.n2 2 (.slice (some ⟨gx, ox, none⟩) 0 0)
          obtain ⟨_, _, _, _, _, _, e1, e2, e3, hq⟩ := hown.pol HPol.out.lenP HPol.out.lenL HPol.out.lenI
          cases e1
          cases e2
          cases e3
          have hPol1 : Pol (WA.setCell ⟨gi, 2, none⟩ (.slice (some ⟨gx, ox, none⟩) 0 0)) au av (some ⟨gx, ox, none⟩) cu cv 0 p l [] := ⟨hq.pp, hq.ll, ptRow_nil _ _, hq.capP, hq.capL, Nat.zero_le _, hq.nilP, hq.nilL, (fun h => by cases h), hq.lenP, hq.lenL, Nat.zero_le _⟩
          have hbO := hown.hb
          clear hown hq e0 HO
          generalize WA.setCell ⟨gi, 2, none⟩ (.slice (some ⟨gx, ox, none⟩) 0 0) = W8 at *
          have hF := first10_l _ _ _ _ _ _ _ _ _ _ hPol1
          obtain ⟨⟨G50, G51, G52⟩, hf1⟩ : ∃ f, flTo p l [] 8 = f := ⟨_, rfl⟩
          rw [hf1] at h2
          obtain rfl : G50 = 0 := h2
          have HY1 : Hid (firstF p l [] = ⟨0, G51, G52⟩) := by unfold Hid firstF; rw [if_pos (checkB_iff.2 h1)]; exact hf1
          have HY2 : Hid (firstE p l [] = 0) := by unfold Hid firstE; rw [if_pos (checkB_iff.2 h1)]
          rw [HY1.out, HY2.out] at hF
          try simp only [List.length_nil] at hF
          have HF := Lib.hid hF
          replace HB := Lib.hid (bl_trans HB.out hbO)
          replace HV := Lib.hid (HV.out.below hbO)
          replace G1 := Lib.hid (G1.out.below hbO)
          replace G2 := Lib.hid (G2.out.below hbO)
          replace G3 := Lib.hid (G3.out.below hbO)
          replace G4 := Lib.hid (G4.out.below hbO)
          obtain ⟨x0, x1, x2⟩ := hvar.three
          clear hF h1 hf1 HY1 HY2 hPol1 hbO hvar
          go_wp2_with fail
          (with_reducible refine HF.out.mono ?_); rintro e w21 ⟨rfl, hb7⟩
          dsimp only
          replace HB := Lib.hid (bl_trans HB.out hb7)
          replace HV := Lib.hid (HV.out.below hb7)
          replace G1 := Lib.hid (G1.out.below hb7)
          replace G2 := Lib.hid (G2.out.below hb7)
          replace G3 := Lib.hid (G3.out.below hb7)
          replace G4 := Lib.hid (G4.out.below hb7)
          clear hb7 HF x0 x1 x2
          go_upto_region 32 with (fail)
          have G5 := Lib.hid (var3_new w21 (.int .i64 0) (.int .i64 G51) (.int .i64 G52) 42 w21.heap.size rfl)
          replace HB := Lib.hid (bl_trans HB.out (bl_one w21 (.cells #[.int .i64 0, .int .i64 G51, .int .i64 G52] 42)))
          replace HV := Lib.hid (HV.out.below (bl_one w21 (.cells #[.int .i64 0, .int .i64 G51, .int .i64 G52] 42)))
          replace G1 := Lib.hid (G1.out.below (bl_one w21 (.cells #[.int .i64 0, .int .i64 G51, .int .i64 G52] 42)))
          replace G2 := Lib.hid (G2.out.below (bl_one w21 (.cells #[.int .i64 0, .int .i64 G51, .int .i64 G52] 42)))
          replace G3 := Lib.hid (G3.out.below (bl_one w21 (.cells #[.int .i64 0, .int .i64 G51, .int .i64 G52] 42)))
          replace G4 := Lib.hid (G4.out.below (bl_one w21 (.cells #[.int .i64 0, .int .i64 G51, .int .i64 G52] 42)))
          generalize w21.alloc (.cells #[.int .i64 0, .int .i64 G51, .int .i64 G52] 42) = WD at *
          generalize w21.heap.size = g24 at *

          obtain ⟨r0, r1, r2⟩ := G1.out.three
          obtain ⟨s0, s1, s2⟩ := G2.out.three
          obtain ⟨t0, t1, t2⟩ := G3.out.three
          obtain ⟨v0, v1, v2⟩ := G4.out.three
          obtain ⟨z0, z1, z2⟩ := G5.out.three
          go_wp2_with fail
          (with_reducible refine (KN.out _).mono ?_); rintro e w9 ⟨rfl, hb9⟩
          have HBz := Lib.hid (bl_trans HB.out hb9)
          clear hb9
          go_wp2_with fail
          go_ret
          exact ⟨rfl, HBz.out⟩
        · have c4 : (cx = 1) = False := eq_false hck
          have c5 : ((cx : Int) = 1) = False := eq_false (by omega)
          go_upto_region 31 with (fail)
          clear x0 x1 x2 y0 y1 y2 b1 b2 b3 b4 b5 b6 b7 b8 b9 c4 c5 k0 k1 k2
          have hvar := HO.out.var.setAt10 (k := 2) (by simp) (.slice (some ⟨gx, ox + 2, none⟩) (i.length - 1) (cx - 1))
          have hown := HO.out.o.set HO.out.hg HO.out.n0 HO.out.n1 HO.out.n2 2 (.slice (some ⟨gx, ox + 2, none⟩) (i.length - 1) (cx - 1))
          obtain ⟨_, _, _, _, _, _, e1, e2, e3, hq⟩ := hown.pol HPol.out.lenP HPol.out.lenL HPol.out.lenI
          cases e1
          cases e2
          cases e3
          have hPol1 : Pol (WA.setCell ⟨gi, 2, none⟩ (.slice (some ⟨gx, ox + 2, none⟩) (i.length - 1) (cx - 1))) au av (some ⟨gx, ox + 2, none⟩) cu cv (cx - 1) p l (i.drop 1) := ⟨hq.pp, hq.ll, hq.ii.drop 1 (fun g o h _ => by cases h; rfl), hq.capP, hq.capL, by rw [List.length_drop]; have := hq.capI; omega, hq.nilP, hq.nilL, (fun h => by cases h), hq.lenP, hq.lenL, by rw [List.length_drop]; have := hq.lenI; omega⟩
          have hbO := hown.hb
          clear hown hq HO
          generalize WA.setCell ⟨gi, 2, none⟩ (.slice (some ⟨gx, ox + 2, none⟩) (i.length - 1) (cx - 1)) = W8 at *
          have hF := first10_l _ _ _ _ _ _ _ _ _ _ hPol1
          rw [List.length_drop] at hF
          obtain ⟨⟨G50, G51, G52⟩, hf1⟩ : ∃ f, flTo p l (i.drop 1) 8 = f := ⟨_, rfl⟩
          rw [hf1] at h2
          obtain rfl : G50 = 0 := h2
          have HY1 : Hid (firstF p l (i.drop 1) = ⟨0, G51, G52⟩) := by unfold Hid firstF; rw [if_pos (checkB_iff.2 h1)]; exact hf1
          have HY2 : Hid (firstE p l (i.drop 1) = 0) := by unfold Hid firstE; rw [if_pos (checkB_iff.2 h1)]
          rw [HY1.out, HY2.out] at hF
          try simp only [List.length_nil] at hF
          have HF := Lib.hid hF
          replace HB := Lib.hid (bl_trans HB.out hbO)
          replace HV := Lib.hid (HV.out.below hbO)
          replace G1 := Lib.hid (G1.out.below hbO)
          replace G2 := Lib.hid (G2.out.below hbO)
          replace G3 := Lib.hid (G3.out.below hbO)
          replace G4 := Lib.hid (G4.out.below hbO)
          obtain ⟨x0, x1, x2⟩ := hvar.three
          clear hF h1 hf1 HY1 HY2 hPol1 hbO hvar
          go_wp2_with fail
          (with_reducible refine HF.out.mono ?_); rintro e w21 ⟨rfl, hb7⟩
          dsimp only
          replace HB := Lib.hid (bl_trans HB.out hb7)
          replace HV := Lib.hid (HV.out.below hb7)
          replace G1 := Lib.hid (G1.out.below hb7)
          replace G2 := Lib.hid (G2.out.below hb7)
          replace G3 := Lib.hid (G3.out.below hb7)
          replace G4 := Lib.hid (G4.out.below hb7)
          clear hb7 HF x0 x1 x2
          go_upto_region 32 with (fail)
          have G5 := Lib.hid (var3_new w21 (.int .i64 0) (.int .i64 G51) (.int .i64 G52) 42 w21.heap.size rfl)
          replace HB := Lib.hid (bl_trans HB.out (bl_one w21 (.cells #[.int .i64 0, .int .i64 G51, .int .i64 G52] 42)))
          replace HV := Lib.hid (HV.out.below (bl_one w21 (.cells #[.int .i64 0, .int .i64 G51, .int .i64 G52] 42)))
          replace G1 := Lib.hid (G1.out.below (bl_one w21 (.cells #[.int .i64 0, .int .i64 G51, .int .i64 G52] 42)))
          replace G2 := Lib.hid (G2.out.below (bl_one w21 (.cells #[.int .i64 0, .int .i64 G51, .int .i64 G52] 42)))
          replace G3 := Lib.hid (G3.out.below (bl_one w21 (.cells #[.int .i64 0, .int .i64 G51, .int .i64 G52] 42)))
          replace G4 := Lib.hid (G4.out.below (bl_one w21 (.cells #[.int .i64 0, .int .i64 G51, .int .i64 G52] 42)))
          generalize w21.alloc (.cells #[.int .i64 0, .int .i64 G51, .int .i64 G52] 42) = WD at *
          generalize w21.heap.size = g24 at *

          obtain ⟨r0, r1, r2⟩ := G1.out.three
          obtain ⟨s0, s1, s2⟩ := G2.out.three
          obtain ⟨t0, t1, t2⟩ := G3.out.three
          obtain ⟨v0, v1, v2⟩ := G4.out.three
          obtain ⟨z0, z1, z2⟩ := G5.out.three
          go_wp2_with fail
          (with_reducible refine (KN.out _).mono ?_); rintro e w9 ⟨rfl, hb9⟩
          have HBz := Lib.hid (bl_trans HB.out hb9)
          clear hb9
          go_wp2_with fail
          go_ret
          exact ⟨rfl, HBz.out⟩
theorem vhurt_l (p l i : List Pt) (ap al ai : Option Addr) (cp cl ci : Nat) (w : World) (hA : PtRow w ap p) (hB0 : PtRow w al l) (hC0 : PtRow w ai i) (q1 : p.length ≤ cp) (q2 : l.length ≤ cl) (q3 : i.length ≤ ci) (n1 : ap = none → cp = 0) (n2 : al = none → cl = 0) (n3 : ai = none → ci = 0) (t : Int) :
    Calls Try.prog 6 #[.agg #[.slice ap p.length cp, .slice al l.length cl, .slice ai i.length ci], .int .i64 t] w (Gives (.bool true) w) := by
  by_cases h3 : l.length < 3 ∨ p.length < 3
  · exact vhurt0 p l i ap al ai cp cl ci w t h3
  · obtain ⟨gp, op, rfl⟩ := hA.some (by omega)
    obtain ⟨gm, om, rfl⟩ := hB0.some (by omega)
    have hA0 : Hid (p.length ≤ 10000 → l.length ≤ 10000 → i.length ≤ 10000 → Pol w (some ⟨gp, op, none⟩) (some ⟨gm, om, none⟩) ai cp cl ci p l i) := fun a b c => ⟨hA, hB0, hC0, q1, q2, q3, n1, n2, n3, a, b, c⟩
    have h3p : Hid (3 ≤ p.length) := show 3 ≤ p.length by omega
    have h3l : Hid (3 ≤ l.length) := show 3 ≤ l.length by omega
    exact (vhA p l i gp op gm om ai cp cl ci w hA0 h3p h3l t).property ⟨(vhB p l i gp op gm om ai cp cl ci w hA0 h3p h3l t).property ⟨(vhC p l i gp op gm om ai cp cl ci w hA0 h3p h3l t).property ⟨vhD p l i gp op gm om ai cp cl ci w hA0 h3p h3l t⟩⟩⟩
end Go.Proofs.Ytpjaefcmaiimlaa
