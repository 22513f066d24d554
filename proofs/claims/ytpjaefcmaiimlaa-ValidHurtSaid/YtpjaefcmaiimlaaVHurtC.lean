/-
  The walk of the law ValidHurt, part 3.
-/
import Derived.Test.YtpjaefcmaiimlaaVHurtB
set_option linter.unusedVariables false
set_option linter.unusedSimpArgs false
set_option linter.deprecated false
namespace Go.Proofs.Ytpjaefcmaiimlaa
open Go.RowKit

set_option maxHeartbeats 16000000 in
set_option maxRecDepth 100000 in
noncomputable def vhC (p l i : List Pt) (gp op gm om : Nat) (ai : Option Addr) (cp cl ci : Nat) (w : World) (hA0 : Hid (p.length ≤ 10000 → l.length ≤ 10000 → i.length ≤ 10000 → Pol w (some ⟨gp, op, none⟩) (some ⟨gm, om, none⟩) ai cp cl ci p l i)) (h3p : Hid (3 ≤ p.length)) (h3l : Hid (3 ≤ l.length)) (t : Int) : {P : Prop // Tail11 P → (vhB p l i gp op gm om ai cp cl ci w hA0 h3p h3l t).val} := ⟨_, fun hP => by
  intro m g5 gy g8 G11 G12 W6 gz au av ax cu cv cx qx qy P wc K0 aK0 KN HC HA HFew HU2 HMl HPol HCp HB HV G1 HQ HPA hcut
  intros
  obtain ⟨v', hO⟩ := hcut
  obtain ⟨W8, eW8⟩ : ∃ W, W = wc := ⟨_, rfl⟩
  subst eW8
  have h1 : ChkOk p (l ++ [⟨qx, qy⟩]) i := by rw [← HQ.out]; exact twice_chk11 HC.out m HMl.out (by have := HFew.out; omega)
  have h2 : (flTo p (l ++ [⟨qx, qy⟩]) i 8).k = 3 := by rw [← HQ.out]; exact hurt_twice HC.out HA.out m HMl.out
  rw [HPA.out] at h1 h2
  have hc1 : ChkOk p P i := h1
  have hk1 : (flTo p P i 8).k = 3 := h2
  obtain ⟨bu, bv, bx, du, dv, dx, e0, e1, e2, hPol⟩ := hO.pol (by have := hc1.n; omega) (by have := hc1.nl; omega) (by have := hc1.ni; omega)
  first | subst e0 | cases e0
  first | subst e1 | cases e1
  first | subst e2 | cases e2
  obtain ⟨⟨G20, G21, G22⟩, hf1⟩ : ∃ f, flTo p P i 8 = f := ⟨_, rfl⟩
  rw [hf1] at hk1
  obtain rfl : G20 = 3 := hk1

  have HY1 : Hid (firstF p P i = ⟨3, G21, G22⟩) := by unfold Hid firstF; rw [if_pos (checkB_iff.2 hc1)]; exact hf1
  have HY2 : Hid (firstE p P i = 0) := by unfold Hid firstE; rw [if_pos (checkB_iff.2 hc1)]
  have hF := first10_l _ _ _ _ _ _ _ _ _ _ hPol
  rw [HY1.out, HY2.out] at hF
  try simp only [List.length_nil] at hF
  have HF := Lib.hid hF
  clear hF
  have hbO := hO.o.hb
  replace HB := Lib.hid (bl_trans HB.out hbO)
  replace HV := Lib.hid (HV.out.below hbO)
  replace G1 := Lib.hid (G1.out.below hbO)
  obtain ⟨x0, x1, x2⟩ := hO.var.three
  clear hc1 hf1 HY1 HY2 hPol hO hbO
  go_wp2_with fail
  (with_reducible refine HF.out.mono ?_); rintro e w21 ⟨rfl, hb7⟩
  dsimp only
  replace HB := Lib.hid (bl_trans HB.out hb7)
  replace HV := Lib.hid (HV.out.below hb7)
  replace G1 := Lib.hid (G1.out.below hb7)
  clear hb7 HF x0 x1 x2
  go_upto_region 12 with (fail)
  have G2 := Lib.hid (var3_new w21 (.int .i64 3) (.int .i64 G21) (.int .i64 G22) 42 w21.heap.size rfl)

  replace HB := Lib.hid (bl_trans HB.out (bl_one w21 (.cells #[.int .i64 3, .int .i64 G21, .int .i64 G22] 42)))
  replace HV := Lib.hid (HV.out.below (bl_one w21 (.cells #[.int .i64 3, .int .i64 G21, .int .i64 G22] 42)))
  replace G1 := Lib.hid (G1.out.below (bl_one w21 (.cells #[.int .i64 3, .int .i64 G21, .int .i64 G22] 42)))
  generalize w21.alloc (.cells #[.int .i64 3, .int .i64 G21, .int .i64 G22] 42) = WD at *
  generalize w21.heap.size = g11 at *
  clear h1 h2 HQ HPA
  obtain ⟨W7, eW7⟩ : ∃ W, W = WD := ⟨_, rfl⟩
  subst eW7
  obtain ⟨k0, k1, k2⟩ := HV.out.three
  go_wp2_with fail
  (with_reducible refine (HCp.out _ HB.out).mono ?_); rintro e w9 ⟨u, v, x, rfl, hO⟩
  obtain ⟨au, av, ax, cu, cv, cx, e0, e1, e2, -⟩ := hO.pol HPol.out.lenP HPol.out.lenL HPol.out.lenI
  subst e0 e1 e2
  go_upto_region 13 with (fail)
  clear k0 k1 k2
  have HO := Lib.hid (own_new hO)
  generalize w9.alloc (.cells #[.slice au p.length cu, .slice av l.length cv, .slice ax i.length cx] 38) = WA at *
  generalize w9.heap.size = gw at *
  clear hO
  have hml := HMl.out
  have hcl := HPol.out.capL
  have b5 : (l.length = 0) = False := eq_false (by omega)
  have b6 : (l = []) = False := eq_false (fun e => by rw [e] at hml; exact absurd hml (Nat.not_lt_zero _))
  obtain ⟨k0, k1, k2⟩ := (HV.out.below HO.out.o.hb).three
  obtain ⟨u1, u2, u3⟩ := HU2.out
  go_upto_region 15 with (fail)
  clear u1 u2 u3 b5 b6
  have HLw := Lib.hid (HPol.out.ll.below (bl_trans HB.out HO.out.o.hb))
  have hsm : l.length ≤ 80 := HFew.out.2.1
  obtain ⟨w1, w3, w2, w4⟩ := wnum (i := m) (by omega)
  have c1 : ((0 : Int) ≤ (m : Int)) = True := eq_true (by omega)
  have c2 : ((m : Int) ≤ (l.length : Int)) = True := eq_true (by omega)
  have c3 : ((m : Int) ≤ (cl : Int)) = True := eq_true (by omega)
  have d2 : (m ≤ l.length) = True := eq_true (by omega)
  have d3 : (m ≤ cl) = True := eq_true (by omega)
  have d4 : (l.length ≤ cl) = True := eq_true hcl
  go_cut [15] (fun xv W => Op 57 WA xv (l.take m) W)
  case first =>
    go_wp2_with (at_builtin; refine app_pts rfl Try.underlying36 info_eseg _ _ rfl rfl (op_nil _ WA) rfl (L := l.take m) (by rw [List.length_take]; omega) (HLw.out.take m) (fun h => by cases h) ?x2 ?_)
    case x2 => simp; omega
    intro v1 w1 hO1
    go_wp2_with fail
    go_meet
    case rel => exact hO1
  case rest =>
  have HO1 := Lib.hid hcut
  clear hcut c1 c2 c3 d2 d3 k0 k1 k2
  obtain ⟨k0, k1, k2⟩ := ((HV.out.below HO.out.o.hb).below HO1.out.hb).three
  have c1 : ((0 : Int) ≤ (m : Int) + 1) = True := eq_true (by omega)
  have c2 : ((m : Int) + 1 ≤ (l.length : Int)) = True := eq_true (by omega)
  have c3 : ((m : Int) + 1 ≤ (cl : Int)) = True := eq_true (by omega)
  have d2 : (m + 1 ≤ l.length) = True := eq_true (by omega)
  have d3 : (m + 1 ≤ cl) = True := eq_true (by omega)
  go_upto_region 16 with (fail)
  go_cut [15] (fun xv W => Op 57 WA xv (l.take m ++ l.drop (m + 1)) W)
  case first =>
    by_cases hck : cl = m + 1
    · have hlm : l.length = m + 1 := by omega
      have e1 : l.drop (m + 1) = [] := List.drop_eq_nil_of_le (by omega)
      have HE1 := Lib.hid e1
      have HLM := Lib.hid hlm
      subst hck
      clear e1 hP
      generalize hn9 : l.length = n9 at *
      subst hlm
      go_wp2_with (at_builtin; refine app_pts rfl Try.underlying36 info_eseg _ _ rfl rfl HO1.out rfl (L := []) (by first | rfl | (simp; done) | (simp; omega)) (ptRow_nil _ _) (fun h => by cases h) (by rw [List.length_take]; simp; omega) ?_)
      intro v1 w1 hO1
      go_wp2_with fail
      go_meet
      case rel => rw [HE1.out, List.append_nil]; exact hO1
    · have c4 : (cl = m + 1) = False := eq_false hck
      have HLN : Hid ((l.take m).length + (l.drop (m + 1)).length ≤ 1000000) := (show (l.take m).length + (l.drop (m + 1)).length ≤ 1000000 by rw [List.length_take, List.length_drop]; omega)
      have HDL : Hid (l.length - (m + 1) = (l.drop (m + 1)).length) := (show l.length - (m + 1) = (l.drop (m + 1)).length by rw [List.length_drop])
      have HPD := Lib.hid (HLw.out.below HO1.out.hb)
      clear hck
      go_wp2_with (at_builtin; refine app_pts rfl Try.underlying36 info_eseg _ _ rfl rfl HO1.out rfl (L := l.drop (m + 1)) HDL.out (HPD.out.drop (m + 1) (fun g o h _ => by cases h; first | rfl | exact congrArg some (add_plain g o ((m + 1) * 2)))) (fun h => by cases h) HLN.out ?_)
      intro v1 w1 hO1
      go_wp2_with fail
      go_meet
      case rel => exact hO1
  case rest =>
  have HO2 := Lib.hid hcut
  clear hcut HO1 c1 c2 c3 d2 d3 d4 w1 w2 w3 w4 k0 k1 k2
  have h1 : ChkOk p (l.take m ++ l.drop (m + 1)) i := open_chk11 HC.out m HMl.out
  have h2 : (flTo p (l.take m ++ l.drop (m + 1)) i 8).k = 5 := hurt_open HC.out HA.out m HMl.out
  generalize l.take m ++ l.drop (m + 1) = M at *
  obtain ⟨aM, cM, hvM, -, -, -⟩ := HO2.out.slice
  subst hvM
  have hOc := HO.out.below HO2.out.hb
  have hO := hOc.new1 (HO2.out.base HO.out.o.hb) (fun g e e' => by have := (HO.out.o.o0.own.lt g e).2; have := (HO2.out.own.lt g e').1; omega) (fun g e e' => by have := (HO.out.o.o2.own.lt g e').2; have := (HO2.out.own.lt g e).1; omega) (fun e => by have := (HO2.out.own.lt _ e).1; have := HO.out.var.lt; omega)
  obtain ⟨x0, x1, x2⟩ := hOc.var.three
  obtain ⟨y0, y1, y2⟩ := hOc.var.free3
  have HO9 := Lib.hid hO
  clear hO hOc HO HO2 HLw hml hcl hsm
  go_upto_region 17 with (fail)
  go_cut [] (fun W => OwnV W7 gw (.slice au p.length cu) (.slice aM M.length cM) (.slice ax i.length cx) p M i W)
  case first =>
    go_wp2_with fail
    go_meet
    case rel => exact HO9.out
  case rest =>
  rename_i K0 aK0
  clear HO9 HU2 HMl x0 x1 x2 y0 y1 y2
  repeat revert ‹Value›
  revert hcut
  revert h2
  revert h1
  revert G2
  revert G1
  revert HV
  revert HB
  revert HCp
  revert HPol
  revert HFew
  revert HA
  revert HC
  revert KN
  revert aK0
  revert K0
  revert wc
  revert cM
  revert aM
  revert M
  revert cx
  revert cv
  revert cu
  revert ax
  revert av
  revert au
  revert gw
  revert W7
  revert G22
  revert G21
  revert g11
  revert gz
  revert G12
  revert G11
  revert g8
  revert gy
  revert g5
  revert m
  exact hP.out⟩
end Go.Proofs.Ytpjaefcmaiimlaa
