/-
  Proved: for every three numbers the law WideOrder returns true, and its arguments read as they did. No condition.
-/
import Derived.Test.YtalffldjimcgeaaOrder
import Derived.Test.YtalffldjimcgeaaOpen
namespace Go.Proofs.Ytalffldjimcgeaa.wideOrder
open Go.ChangeShapes Go.WideShapes Go.ChangeAt Go.RowKit

theorem own : ownKnob Try.prog.godebug = none := by kernel_rfl

set_option maxRecDepth 100000 in
theorem lifted (os : Os) (started : os.Started) (H : Type) (enc : TypeId × Value → H) :
    ReturnsInHanded {} Try.checked os 9 .any (Rows.wideOrderSpec.pre6 enc Try.prog Try.f9 Rows.wideOrderRow.domain false) (Rows.wideOrderSpec.post enc Try.prog Try.f9 false true false false) := by
  refine returnsInHanded_of_change (C := Try.checked) own started (by kernel_rfl) Try.func9
    (ChangeSpec.witness6 (enc := enc) (C := Try.checked) false ⟨#[], #[(.agg #[.bool false, .int .u64 0, .int .u64 0, .int .u64 0, .int .u64 0]), (.agg #[.bool false, .int .u64 0, .int .u64 0, .int .u64 0, .int .u64 0]), (.agg #[.bool false, .int .u64 0, .int .u64 0, .int .u64 0, .int .u64 0])], []⟩ 8 (by kernel_rfl) (by kernel_rfl) (by kernel_rfl) (by kernel_rfl)) ?_
  intro W base args ds gs before hval0 hW _ _
  have hval : ∀ (j : Nat) t v, Try.f9.params[j]? = some t → args[j]? = some v → Value.okWide Try.prog W .any base t v := hval0
  have hW' := hW
  obtain ⟨p, q, hA0, hV, rfl, -, -⟩ := hW
  have hA : DataW.TrodAll enc Try.prog W 0 (fun _ => true) true Try.f9.params.toList args.toList ds p := hA0
  rw [Try.params9] at hA hval
  obtain ⟨v0, vs0, d0, ds0, p0, q0, hargs, rfl, rfl, h0, r0⟩ := trodAll_cons hA
  obtain ⟨v1, vs1, d1, ds1, p1, q1, hargs1, rfl, rfl, h1, r1⟩ := trodAll_cons r0
  obtain ⟨v2, vs2, d2, ds2, p2, q2, hargs2, rfl, rfl, h2, r2⟩ := trodAll_cons r1
  obtain ⟨rfl, rfl, rfl⟩ := trodAll_nil r2
  obtain rfl : args = #[v0, v1, v2] := by cases args; simp_all
  obtain ⟨rfl, rfl⟩ := trodVars_none hV
  obtain ⟨m0, x0, y0, z0, u0, rfl, i0, rfl, rfl, wx0, wy0, wz0, wu0⟩ := open_wide (hval 0 25 v0 rfl rfl) h0
  obtain ⟨m1, x1, y1, z1, u1, rfl, i1, rfl, rfl, wx1, wy1, wz1, wu1⟩ := open_wide (hval 1 25 v1 rfl rfl) h1
  obtain ⟨m2, x2, y2, z2, u2, rfl, i2, rfl, rfl, wx2, wy2, wz2, wu2⟩ := open_wide (hval 2 25 v2 rfl rfl) h2
  clear hA0 hval0
  simp only [List.append_nil] at hW'
  refine (order_c m0 m1 m2 x0 y0 z0 u0 x1 y1 z1 u1 x2 y2 z2 u2 i0 i1 i2 W).mono fun e W' h => ?_
  obtain ⟨he, hb⟩ := h
  subst he
  exact ⟨_, rfl, _, _, _, [], [], [], hW', trodAll_cons_mk (shut_bool Try.underlying4 _) trodAll_mk0, trodAll_cons_mk (p := []) (p' := []) (shut_wide wx0 wy0 wz0 wu0) (trodAll_cons_mk (p := []) (p' := []) (shut_wide wx1 wy1 wz1 wu1) (trodAll_cons_mk (p := []) (p' := []) (shut_wide wx2 wy2 wz2 wu2) trodAll_mk0)), rfl, hb.frame _, fun h => by cases h⟩

theorem proved : Rows.WideOrderSaid :=
  OpenClaim.holds_of_wide 9 Try.f9 rfl rfl rfl rfl rfl rfl rfl ⟨rfl, rfl, rfl, rfl, rfl⟩ rfl rfl rfl rfl rfl (by kernel_rfl) Try.func9 (by kernel_rfl)
    (of_decide_eq_true (by kernel_rfl)) (by unfold Func.isWrapper; first | (rw [if_pos (by decide +kernel)]; kernel_rfl) | (rw [if_neg (by decide +kernel)]; exact ⟨rfl, rfl⟩))
    (fun os started H enc _ => lifted os started H enc)
end Go.Proofs.Ytalffldjimcgeaa.wideOrder
