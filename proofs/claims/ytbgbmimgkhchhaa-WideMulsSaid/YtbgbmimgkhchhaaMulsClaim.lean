/-
  Proved: for every list of numbers the law WideMuls returns true, and its argument reads as it did. No condition.
-/
import Derived.Test.YtbgbmimgkhchhaaMuls
import Derived.Test.YtbgbmimgkhchhaaOpenWides
import Derived.Carry
namespace Go.Proofs.Ytbgbmimgkhchhaa.wideMuls
open Go.ChangeShapes Go.WideShapes Go.ChangeAt Go.RowKit

theorem own : ownKnob Try.prog.godebug = none := by kernel_rfl

set_option maxRecDepth 100000 in
theorem lifted (os : Os) (started : os.Started) (H : Type) (enc : TypeId × Value → H) :
    ReturnsInHanded {} Try.checked os 6 .any (Rows.wideMulsSpec.pre6 enc Try.prog Try.f6 Rows.wideMulsRow.domain false) (Rows.wideMulsSpec.post enc Try.prog Try.f6 false true false false) := by
  refine returnsInHanded_of_change (C := Try.checked) own started (by kernel_rfl) Try.func6
    (ChangeSpec.witness6 (enc := enc) (C := Try.checked) false ⟨#[], #[.slice none 0 0], []⟩ 8 (by kernel_rfl) (by kernel_rfl) (by kernel_rfl) (by kernel_rfl)) ?_
  intro W base args ds gs before hval0 hW _ _
  have hval : ∀ (j : Nat) t v, Try.f6.params[j]? = some t → args[j]? = some v → Value.okWide Try.prog W .any base t v := hval0
  have hW' := hW
  obtain ⟨p, q, hA0, hV, rfl, -, -⟩ := hW
  have hA : DataW.TrodAll enc Try.prog W 0 (fun _ => true) true Try.f6.params.toList args.toList ds p := hA0
  rw [Try.params6] at hA hval
  obtain ⟨v0, vs0, d0, ds0, p0, q0, hargs, rfl, rfl, h0, r0⟩ := trodAll_cons hA
  obtain ⟨rfl, rfl, rfl⟩ := trodAll_nil r0
  obtain rfl : args = #[v0] := by cases args; simp_all
  obtain ⟨rfl, rfl⟩ := trodVars_none hV
  have hop := open_wides (hval 0 48 v0 rfl rfl) h0
  obtain ⟨ad, cp, l, rfl, hS⟩ : ∃ ad cp l, v0 = .slice ad (List.length l) cp ∧ WSlice W ad l := by
    rcases hop with ⟨ad, cp, rfl⟩ | ⟨g, o, cap, l, rfl, -, -, hw⟩
    · exact ⟨ad, cp, [], rfl, .inl rfl⟩
    · exact ⟨_, cap, l, rfl, .inr ⟨g, o, rfl, hw⟩⟩
  clear hA0 hval0 hop
  have hlt : ∀ x ∈ p0, x.block < W.heap.size := fun x hx => by simpa using hW'.lt x (by simpa using hx)
  simp only [List.append_nil] at hW'
  refine (muls_c ad cp l W hS).mono fun e W' h => ?_
  obtain ⟨he, hb⟩ := h
  subst he
  have hargs2 : DataW.TrodAll enc Try.prog W' 0 (fun b => decide (b < W.heap.size)) true [48] [.slice ad l.length cp] [d0] p0 := by simpa using trodAll_cons_mk (Below.trod (by kernel_rfl) (by kernel_rfl) (of_decide_eq_true (by kernel_rfl)) h0 hb hlt) trodAll_mk0
  exact ⟨_, rfl, _, _, _, [], p0, [], hW', trodAll_cons_mk (shut_bool Try.underlying4 _) trodAll_mk0, hargs2, rfl, hb.frame _, fun h => by cases h⟩

theorem proved : Rows.WideMulsSaid :=
  OpenClaim.holds_of_wide 6 Try.f6 rfl rfl rfl rfl rfl rfl rfl ⟨rfl, rfl, rfl, rfl, rfl⟩ rfl rfl rfl rfl rfl (by kernel_rfl) Try.func6 (by kernel_rfl)
    (of_decide_eq_true (by kernel_rfl)) (by unfold Func.isWrapper; first | (rw [if_pos (by decide +kernel)]; kernel_rfl) | (rw [if_neg (by decide +kernel)]; exact ⟨rfl, rfl⟩))
    (fun os started H enc _ => lifted os started H enc)
end Go.Proofs.Ytbgbmimgkhchhaa.wideMuls
