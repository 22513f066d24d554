/-
  Proved: for every input (a slice of points and two slices of segments) the law ValidFinds returns true, and its argument reads as it did. No condition.
-/
import Derived.Test.YtpjaefcmaiimlaaGreatVTurnK
import Derived.Test.YtpjaefcmaiimlaaGreatVRefPL
import Derived.Test.YtpjaefcmaiimlaaGreatVMems
import Derived.Test.YtpjaefcmaiimlaaGreatVLawK
import Derived.Test.YtpjaefcmaiimlaaGreatVMany
import Derived.Test.YtpjaefcmaiimlaaGreatOpenPoly
import Derived.Test.YtpjaefcmaiimlaaGreatRows
import Derived.Test.YtpjaefcmaiimlaaGreatGeoMath
import Derived.ProofKit
import Derived.OpenShut
import Derived.Lib.SmallJoins
set_option linter.unusedVariables false
set_option linter.unusedSimpArgs false
set_option linter.deprecated false
/-
  The law ValidFinds.
-/
namespace Go.Proofs.YtpjaefcmaiimlaaGreat
open Go.RowKit

set_option maxHeartbeats 16000000 in
set_option maxRecDepth 100000 in
theorem vfinds_l (p l i : List Pt) (ap al ai : Option Addr) (cp cl ci : Nat) (w : World) (hA : PtRow w ap p) (hB0 : PtRow w al l) (hC0 : PtRow w ai i) (q1 : p.length ≤ cp) (q2 : l.length ≤ cl) (q3 : i.length ≤ ci) (n1 : ap = none → cp = 0) (n2 : al = none → cl = 0) (n3 : ai = none → ci = 0) :
    Calls Tryz.prog 3 #[.agg #[.slice ap p.length cp, .slice al l.length cl, .slice ai i.length ci]] w (Gives (.bool true) w) := by
  have KN := Lib.hid (fun W => known10_l W)
  have HPol0 : Hid (p.length ≤ 10000 → l.length ≤ 10000 → i.length ≤ 10000 → Pol w ap al ai cp cl ci p l i) := fun a b c => ⟨hA, hB0, hC0, q1, q2, q3, n1, n2, n3, a, b, c⟩
  have HM := Lib.hid (fun W => many10_l p.length l.length i.length ap al ai cp cl ci W)
  clear hA hB0 hC0 q1 q2 q3 n1 n2 n3
  obtain ⟨r, hr⟩ : ∃ r, many10 p.length l.length i.length = r := ⟨_, rfl⟩
  rw [hr] at HM
  have HR := Lib.hid hr
  clear hr
  go_enter Tryz.func3, Tryz.ntmps3
  go_upto_region 1 with (fail)
  have HV := Lib.hid (var3_new w (.slice ap p.length cp) (.slice al l.length cl) (.slice ai i.length ci) 25 w.heap.size rfl)
  have HB := Lib.hid (bl_one w (.cells #[.slice ap p.length cp, .slice al l.length cl, .slice ai i.length ci] 25))
  generalize w.alloc (.cells #[.slice ap p.length cp, .slice al l.length cl, .slice ai i.length ci] 25) = W1 at *
  obtain ⟨k0, k1, k2⟩ := HV.out.three
  go_wp2_with fail
  (with_reducible refine (HM.out _).mono ?_); rintro e w2 ⟨rfl, hb2⟩
  replace HB := Lib.hid (bl_trans HB.out hb2)
  replace HV := Lib.hid (HV.out.below hb2)
  clear hb2 HM k0 k1 k2
  cases r
  case true =>
    go_wp2_with fail
    (with_reducible refine (KN.out _).mono ?_); rintro e w9 ⟨rfl, hb9⟩
    have HBz := Lib.hid (bl_trans HB.out hb9)
    clear hb9
    go_wp2_with fail
    go_ret
    exact ⟨rfl, HBz.out⟩
  case false =>
  have hA : Pol w ap al ai cp cl ci p l i := by
    obtain ⟨a, b, c⟩ := many_no HR.out
    exact HPol0.out (by omega) (by omega) (by omega)
  have HPol := Lib.hid hA
  clear HPol0 HR hA
  have HCp := Lib.hid (fun W (h : Below w.heap.size w W) => copy10_l p l i ap al ai cp cl ci W (HPol.out.below h))
  have HFr := Lib.hid (fun W (h : Below w.heap.size w W) => refFirst10_l p l i ap al ai cp cl ci W (HPol.out.below h))
  obtain ⟨k0, k1, k2⟩ := HV.out.three
  go_wp2_with fail
  (with_reducible refine (HCp.out _ HB.out).mono ?_); rintro e w4 ⟨u, v, x, rfl, hO⟩
  obtain ⟨au, av, ax, cu, cv, cx, e0, e1, e2, hPx⟩ := hO.pol HPol.out.lenP HPol.out.lenL HPol.out.lenI
  subst e0 e1 e2
  have HPx := Lib.hid hPx
  replace HB := Lib.hid (bl_trans HB.out hO.hb)
  replace HV := Lib.hid (HV.out.below hO.hb)
  clear hO hPx HCp k0 k1 k2
  go_upto_region 4 with (fail)
  have HX := Lib.hid (var3_new w4 (.slice au p.length cu) (.slice av l.length cv) (.slice ax i.length cx) 25 w4.heap.size rfl)
  have HB4 := Lib.hid (bl_one w4 (.cells #[.slice au p.length cu, .slice av l.length cv, .slice ax i.length cx] 25))
  generalize w4.alloc (.cells #[.slice au p.length cu, .slice av l.length cv, .slice ax i.length cx] 25) = W5 at *
  have HF1 := Lib.hid (fun W (h : Below w4.heap.size w4 W) => first10_l p l i au av ax cu cv cx W (HPx.out.below h))
  have HSm := Lib.hid (fun W (h : Below w4.heap.size w4 W) (h' : Below w.heap.size w W) => refSame10_l p l i au av ax ap al ai cu cv cx cp cl ci W (HPx.out.below h) (HPol.out.below h'))
  obtain ⟨⟨c, a, b⟩, hf⟩ : ∃ f, firstF p l i = f := ⟨_, rfl⟩
  obtain ⟨ee, hee⟩ : ∃ f, firstE p l i = f := ⟨_, rfl⟩
  rw [hf, hee] at HF1 HFr
  clear hf hee
  obtain ⟨x0, x1, x2⟩ := HX.out.three
  go_wp2_with fail
  (with_reducible refine (HF1.out _ HB4.out).mono ?_); rintro e w6 ⟨rfl, hb2⟩
  dsimp only
  replace HB4 := Lib.hid (bl_trans HB4.out hb2)
  replace HX := Lib.hid (HX.out.below hb2)
  clear hb2 HF1 x0 x1 x2
  go_upto_region 5 with (fail)
  have HG1 := Lib.hid (var3_new w6 (.int .i64 c) (.int .i64 a) (.int .i64 b) 30 w6.heap.size rfl)
  replace HB4 := Lib.hid (bl_trans HB4.out (bl_one w6 (.cells #[.int .i64 c, .int .i64 a, .int .i64 b] 30)))
  replace HX := Lib.hid (HX.out.below (bl_one w6 (.cells #[.int .i64 c, .int .i64 a, .int .i64 b] 30)))
  generalize w6.alloc (.cells #[.int .i64 c, .int .i64 a, .int .i64 b] 30) = W7 at *
  have HBx := Lib.hid (bl_trans HB.out HB4.out)
  obtain ⟨k0, k1, k2⟩ := (HV.out.below HB4.out).three
  go_wp2_with fail
  (with_reducible refine (HFr.out _ HBx.out).mono ?_); rintro e w8 ⟨rfl, hb2⟩
  dsimp only
  replace HB4 := Lib.hid (bl_trans HB4.out hb2)
  replace HX := Lib.hid (HX.out.below hb2)
  replace HG1 := Lib.hid (HG1.out.below hb2)
  clear hb2 HFr k0 k1 k2 HBx
  go_upto_region 6 with (fail)
  have HG2 := Lib.hid (var3_new w8 (.int .i64 c) (.int .i64 a) (.int .i64 b) 30 w8.heap.size rfl)
  replace HB4 := Lib.hid (bl_trans HB4.out (bl_one w8 (.cells #[.int .i64 c, .int .i64 a, .int .i64 b] 30)))
  replace HX := Lib.hid (HX.out.below (bl_one w8 (.cells #[.int .i64 c, .int .i64 a, .int .i64 b] 30)))
  replace HG1 := Lib.hid (HG1.out.below (bl_one w8 (.cells #[.int .i64 c, .int .i64 a, .int .i64 b] 30)))
  generalize w8.alloc (.cells #[.int .i64 c, .int .i64 a, .int .i64 b] 30) = W9 at *
  have HBx := Lib.hid (bl_trans HB.out HB4.out)
  obtain ⟨k0, k1, k2⟩ := (HV.out.below HB4.out).three
  obtain ⟨x0, x1, x2⟩ := HX.out.three
  obtain ⟨y0, y1, y2⟩ := HG1.out.three
  obtain ⟨z0, z1, z2⟩ := HG2.out.three
  have q0 := fun W => eqFlG10 c a b W
  go_wp2_with fail
  (with_reducible refine (HSm.out _ HB4.out HBx.out).mono ?_); rintro e w10 ⟨rfl, hb2⟩
  replace HBx := Lib.hid (bl_trans HBx.out hb2)
  clear hb2 k0 k1 k2 x0 x1 x2 y0 y1 y2 z0 z1 z2 q0
  go_wp2_with fail
  (with_reducible refine (KN.out _).mono ?_); rintro e w9 ⟨rfl, hb9⟩
  have HBz := Lib.hid (bl_trans HBx.out hb9)
  clear hb9
  go_wp2_with fail
  go_ret
  exact ⟨rfl, HBz.out⟩
end Go.Proofs.YtpjaefcmaiimlaaGreat

namespace Go.Proofs.YtpjaefcmaiimlaaGreat.validFinds
open Go.ChangeShapes Go.WideShapes Go.ChangeAt Go.RowKit

theorem own : ownKnob Tryz.prog.godebug = none := by kernel_rfl

set_option maxRecDepth 100000 in
theorem lifted (os : Os) (started : os.Started) (H : Type) (enc : TypeId × Value → H) :
    ReturnsInHanded {} Tryz.checked os 3 .any (Rows.validFindsSpec.pre6 enc Tryz.prog Tryz.f3 Rows.validFindsRow.domain false) (Rows.validFindsSpec.post enc Tryz.prog Tryz.f3 false true false false) := by
  refine returnsInHanded_of_change (C := Tryz.checked) own started (by kernel_rfl) Tryz.func3
    (ChangeSpec.witness6 (enc := enc) (C := Tryz.checked) false ⟨#[], #[.agg #[.slice none 0 0, .slice none 0 0, .slice none 0 0]], []⟩ 8 (by kernel_rfl) (by kernel_rfl) (by kernel_rfl) (by kernel_rfl)) ?_
  intro W base args ds gs before hval0 hW _ _
  have hval : ∀ (j : Nat) t v, Tryz.f3.params[j]? = some t → args[j]? = some v → Value.okWide Tryz.prog W .any base t v := hval0
  have hW' := hW
  obtain ⟨p, q, hA0, hV, rfl, -, -⟩ := hW
  have hA : DataW.TrodAll enc Tryz.prog W 0 (fun _ => true) true Tryz.f3.params.toList args.toList ds p := hA0
  rw [Tryz.params3] at hA hval
  obtain ⟨v0, vs0, d0, ds0, p0, q0, hargs0, rfl, rfl, h0, r0⟩ := trodAll_cons hA
  obtain ⟨rfl, rfl, rfl⟩ := trodAll_nil r0
  obtain rfl : args = #[v0] := by cases args; simp_all
  obtain ⟨rfl, rfl⟩ := trodVars_none hV
  obtain ⟨l0, m0, k0, al0, am0, ak0, cl0, cm0, ck0, rfl, z1, z2, z3, z4, z5, z6, z7, z8, z9⟩ := open_poly (hval 0 25 v0 rfl rfl) h0
  clear hA0 hval0
  have hlt0 : ∀ x ∈ p0, x.block < W.heap.size := fun x hx => by simpa using hW'.lt x (by simpa using hx)
  simp only [List.append_nil] at hW'
  refine (vfinds_l l0 m0 k0 al0 am0 ak0 cl0 cm0 ck0 W z1 z2 z3 z4 z5 z6 z7 z8 z9).mono fun e W' h => ?_
  obtain ⟨he, hb⟩ := h
  subst he
  have hargs9 : DataW.TrodAll enc Tryz.prog W' 0 (fun b => decide (b < W.heap.size)) true [25] [.agg #[.slice al0 l0.length cl0, .slice am0 m0.length cm0, .slice ak0 k0.length ck0]] [d0] p0 := by
    simpa using trodAll_cons_mk (Below.trod (by kernel_rfl) (by kernel_rfl) (of_decide_eq_true (by kernel_rfl)) h0 hb hlt0) trodAll_mk0
  exact ⟨_, rfl, _, _, _, [], p0, [], hW', trodAll_cons_mk (shut_bool Tryz.underlying4 _) trodAll_mk0, hargs9, rfl, hb.frame _, fun h => by cases h⟩

theorem proved : Rows.ValidFindsSaid :=
  OpenClaim.holds_of_wide 3 Tryz.f3 rfl rfl rfl rfl rfl rfl rfl ⟨rfl, rfl, rfl, rfl, rfl⟩ rfl rfl rfl rfl rfl (by kernel_rfl) Tryz.func3 (by kernel_rfl)
    (of_decide_eq_true (by kernel_rfl)) (by unfold Func.isWrapper; first | (rw [if_pos (by decide +kernel)]; kernel_rfl) | (rw [if_neg (by decide +kernel)]; exact ⟨rfl, rfl⟩))
    (fun os started H enc _ => lifted os started H enc)
end Go.Proofs.YtpjaefcmaiimlaaGreat.validFinds
