/-
  Proved: for every list of numbers and every two numbers the law WideAdds returns true, and its arguments read as they did. No condition.
-/
import Derived.Test.YtbgbmimgkhchhaaAdds
import Derived.Test.YtbgbmimgkhchhaaOpenWides
import Derived.Carry
namespace Go.Proofs.Ytbgbmimgkhchhaa.wideAdds
open Go.ChangeShapes Go.WideShapes Go.ChangeAt Go.RowKit

theorem own : ownKnob Try.prog.godebug = none := by kernel_rfl

set_option maxRecDepth 100000 in
theorem lifted (os : Os) (started : os.Started) (H : Type) (enc : TypeId × Value → H) :
    ReturnsInHanded {} Try.checked os 5 .any (Rows.wideAddsSpec.pre6 enc Try.prog Try.f5 Rows.wideAddsRow.domain false) (Rows.wideAddsSpec.post enc Try.prog Try.f5 false true false false) := by
  refine returnsInHanded_of_change (C := Try.checked) own started (by kernel_rfl) Try.func5
    (ChangeSpec.witness6 (enc := enc) (C := Try.checked) false ⟨#[], #[.slice none 0 0, (.agg #[.bool false, .int .u64 0, .int .u64 0, .int .u64 0, .int .u64 0]), (.agg #[.bool false, .int .u64 0, .int .u64 0, .int .u64 0, .int .u64 0])], []⟩ 8 (by kernel_rfl) (by kernel_rfl) (by kernel_rfl) (by kernel_rfl)) ?_
  intro W base args ds gs before hval0 hW _ _
  have hval : ∀ (j : Nat) t v, Try.f5.params[j]? = some t → args[j]? = some v → Value.okWide Try.prog W .any base t v := hval0
  have hW' := hW
  obtain ⟨p, q, hA0, hV, rfl, -, -⟩ := hW
  have hA : DataW.TrodAll enc Try.prog W 0 (fun _ => true) true Try.f5.params.toList args.toList ds p := hA0
  rw [Try.params5] at hA hval
  obtain ⟨v0, vs0, d0, ds0, p0, q0, hargs, rfl, rfl, h0, r0⟩ := trodAll_cons hA
  obtain ⟨v1, vs1, d1, ds1, p1, q1, hargs1, rfl, rfl, h1, r1⟩ := trodAll_cons r0
  obtain ⟨v2, vs2, d2, ds2, p2, q2, hargs2, rfl, rfl, h2, r2⟩ := trodAll_cons r1
  obtain ⟨rfl, rfl, rfl⟩ := trodAll_nil r2
  obtain rfl : args = #[v0, v1, v2] := by cases args; simp_all
  obtain ⟨rfl, rfl⟩ := trodVars_none hV
  obtain ⟨m1, x1, y1, z1, u1, rfl, i1, rfl, rfl, wx1, wy1, wz1, wu1⟩ := open_wide (hval 1 25 v1 rfl rfl) h1
  obtain ⟨m2, x2, y2, z2, u2, rfl, i2, rfl, rfl, wx2, wy2, wz2, wu2⟩ := open_wide (hval 2 25 v2 rfl rfl) h2
  have hop := open_wides (hval 0 48 v0 rfl rfl) h0
  obtain ⟨ad, cp, l, rfl, hS⟩ : ∃ ad cp l, v0 = .slice ad (List.length l) cp ∧ WSlice W ad l := by
    rcases hop with ⟨ad, cp, rfl⟩ | ⟨g, o, cap, l, rfl, -, -, hw⟩
    · exact ⟨ad, cp, [], rfl, .inl rfl⟩
    · exact ⟨_, cap, l, rfl, .inr ⟨g, o, rfl, hw⟩⟩
  clear hA0 hval0 hop
  have hlt : ∀ x ∈ p0, x.block < W.heap.size := fun x hx => by simpa using hW'.lt x (by simpa using hx)
  simp only [List.append_nil] at hW'
  refine (adds_c ad cp l m1 m2 x1 y1 z1 u1 x2 y2 z2 u2 i1 i2 W hS).mono fun e W' h => ?_
  obtain ⟨he, hb⟩ := h
  subst he
  have hback : DataW.TrodAll enc Try.prog W' 0 (fun b => decide (b < W.heap.size)) true [48, 25, 25] [.slice ad l.length cp, (.agg #[.bool m1, .int .u64 x1, .int .u64 y1, .int .u64 z1, .int .u64 u1]), (.agg #[.bool m2, .int .u64 x2, .int .u64 y2, .int .u64 z2, .int .u64 u2])] [d0, .agg [.lit (.bool m1), .agg [.lit (.int .u64 x1), .lit (.int .u64 y1), .lit (.int .u64 z1), .lit (.int .u64 u1)]], .agg [.lit (.bool m2), .agg [.lit (.int .u64 x2), .lit (.int .u64 y2), .lit (.int .u64 z2), .lit (.int .u64 u2)]]] p0 := by
    simpa using trodAll_cons_mk (Below.trod (by kernel_rfl) (by kernel_rfl) (of_decide_eq_true (by kernel_rfl)) h0 hb hlt) (trodAll_cons_mk (p := []) (p' := []) (shut_wide wx1 wy1 wz1 wu1) (trodAll_cons_mk (p := []) (p' := []) (shut_wide wx2 wy2 wz2 wu2) trodAll_mk0))
  exact ⟨_, rfl, _, _, _, [], p0, [], hW', trodAll_cons_mk (shut_bool Try.underlying4 _) trodAll_mk0, hback, rfl, hb.frame _, fun h => by cases h⟩

theorem proved : Rows.WideAddsSaid :=
  OpenClaim.holds_of_wide 5 Try.f5 rfl rfl rfl rfl rfl rfl rfl ⟨rfl, rfl, rfl, rfl, rfl⟩ rfl rfl rfl rfl rfl (by kernel_rfl) Try.func5 (by kernel_rfl)
    (of_decide_eq_true (by kernel_rfl)) (by unfold Func.isWrapper; first | (rw [if_pos (by decide +kernel)]; kernel_rfl) | (rw [if_neg (by decide +kernel)]; exact ⟨rfl, rfl⟩))
    (fun os started H enc _ => lifted os started H enc)
end Go.Proofs.Ytbgbmimgkhchhaa.wideAdds
