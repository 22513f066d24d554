/-
  Proved: for every two points and every two numbers of 16 bits the law WithinBox returns true, and its arguments read as they did. No condition.
-/
import Derived.Test.YtkidphekfnmhhaaWBox
import Derived.Test.YtkidphekfnmhhaaOpen8
import Derived.Test.YtkidphekfnmhhaaKnown3
namespace Go.Proofs.Ytkidphekfnmhhaa.withinBox
open Go.ChangeShapes Go.WideShapes Go.ChangeAt Go.RowKit

theorem u16_nat {n : Int} (h : (Lit.int .u16 n).wf = true) : ∃ m : Nat, m < 65536 ∧ n = (m : Int) := by
  have := bounds_u16 h
  exact ⟨n.toNat, by omega, by omega⟩
theorem own : ownKnob Try.prog.godebug = none := by kernel_rfl

set_option maxRecDepth 100000 in
theorem lifted (os : Os) (started : os.Started) (H : Type) (enc : TypeId × Value → H) :
    ReturnsInHanded {} Try.checked os 8 .any (Rows.withinBoxSpec.pre6 enc Try.prog Try.f8 Rows.withinBoxRow.domain false) (Rows.withinBoxSpec.post enc Try.prog Try.f8 false true false false) := by
  refine returnsInHanded_of_change (C := Try.checked) own started (by kernel_rfl) Try.func8
    (ChangeSpec.witness6 (enc := enc) (C := Try.checked) false ⟨#[], #[.agg #[.int .i64 0, .int .i64 0], .int .u16 0, .int .u16 0, .agg #[.int .i64 0, .int .i64 0]], []⟩ 8 (by kernel_rfl) (by kernel_rfl) (by kernel_rfl) (by kernel_rfl)) ?_
  intro W base args ds gs before hval0 hW _ _
  have hval : ∀ (j : Nat) t v, Try.f8.params[j]? = some t → args[j]? = some v → Value.okWide Try.prog W .any base t v := hval0
  have hW' := hW
  obtain ⟨p, q, hA0, hV, rfl, -, -⟩ := hW
  have hA : DataW.TrodAll enc Try.prog W 0 (fun _ => true) true Try.f8.params.toList args.toList ds p := hA0
  rw [Try.params8] at hA hval
  obtain ⟨v0, vs0, d0, ds0, p0, q0, hargs0, rfl, rfl, h0, r0⟩ := trodAll_cons hA
  obtain ⟨v1, vs1, d1, ds1, p1, q1, hargs1, rfl, rfl, h1, r1⟩ := trodAll_cons r0
  obtain ⟨v2, vs2, d2, ds2, p2, q2, hargs2, rfl, rfl, h2, r2⟩ := trodAll_cons r1
  obtain ⟨v3, vs3, d3, ds3, p3, q3, hargs3, rfl, rfl, h3, r3⟩ := trodAll_cons r2
  obtain ⟨rfl, rfl, rfl⟩ := trodAll_nil r3
  obtain rfl : args = #[v0, v1, v2, v3] := by cases args; simp_all
  obtain ⟨rfl, rfl⟩ := trodVars_none hV
  obtain ⟨a0, rfl, rfl, rfl, wx0, wy0⟩ := open_pt (hval 0 25 v0 rfl rfl) h0
  obtain ⟨n1, rfl, rfl, rfl, wn1⟩ := open_int Try.underlying53 (hval 1 53 v1 rfl rfl) h1
  obtain ⟨m1, hm1, rfl⟩ := u16_nat wn1
  obtain ⟨n2, rfl, rfl, rfl, wn2⟩ := open_int Try.underlying53 (hval 2 53 v2 rfl rfl) h2
  obtain ⟨m2, hm2, rfl⟩ := u16_nat wn2
  obtain ⟨a3, rfl, rfl, rfl, wx3, wy3⟩ := open_pt (hval 3 25 v3 rfl rfl) h3
  clear hA0 hval0
  simp only [List.append_nil, List.nil_append] at hW'
  refine (box_l W a0 m1 hm1 m2 hm2 a3).mono fun e W' h => ?_
  obtain ⟨he, hb⟩ := h
  subst he
  have hargs9 : DataW.TrodAll enc Try.prog W' 0 (fun b => decide (b < W.heap.size)) true [25, 53, 53, 25] [.agg #[.int .i64 a0.x, .int .i64 a0.y], .int .u16 (m1 : Int), .int .u16 (m2 : Int), .agg #[.int .i64 a3.x, .int .i64 a3.y]] [.agg [.lit (.int .i64 a0.x), .lit (.int .i64 a0.y)], .lit (.int .u16 (m1 : Int)), .lit (.int .u16 (m2 : Int)), .agg [.lit (.int .i64 a3.x), .lit (.int .i64 a3.y)]] [] := by
    simpa using trodAll_cons_mk (p := []) (shut_pt wx0 wy0) (trodAll_cons_mk (p := []) (shut_int Try.underlying53 wn1) (trodAll_cons_mk (p := []) (shut_int Try.underlying53 wn2) (trodAll_cons_mk (p := []) (shut_pt wx3 wy3) trodAll_mk0)))
  exact ⟨_, rfl, _, _, _, [], [], [], hW', trodAll_cons_mk (shut_bool Try.underlying4 _) trodAll_mk0, hargs9, rfl, hb.frame _, fun h => by cases h⟩

theorem proved : Rows.WithinBoxSaid :=
  OpenClaim.holds_of_wide 8 Try.f8 rfl rfl rfl rfl rfl rfl rfl ⟨rfl, rfl, rfl, rfl, rfl⟩ rfl rfl rfl rfl rfl (by kernel_rfl) Try.func8 (by kernel_rfl)
    (of_decide_eq_true (by kernel_rfl)) (by unfold Func.isWrapper; first | (rw [if_pos (by decide +kernel)]; kernel_rfl) | (rw [if_neg (by decide +kernel)]; exact ⟨rfl, rfl⟩))
    (fun os started H enc _ => lifted os started H enc)
end Go.Proofs.Ytkidphekfnmhhaa.withinBox
