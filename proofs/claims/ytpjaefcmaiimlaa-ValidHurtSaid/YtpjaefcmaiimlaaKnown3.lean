/-
  A place that comes in: opened, and read again in whatever world.
-/
import Derived.Test.YtpjaefcmaiimlaaRows
import Derived.Test.YtpjaefcmaiimlaaGeoMath
import Derived.ProofKit
import Derived.OpenShut
import Derived.Lib.SmallJoins
set_option linter.unusedVariables false
set_option linter.unusedSimpArgs false
set_option linter.deprecated false
namespace Go.Proofs.Ytpjaefcmaiimlaa
open Go.RowKit Go.ChangeShapes Go.WideShapes Go.ChangeAt Go.Joins

set_option maxRecDepth 100000 in
theorem open_pt {H : Type} {enc : TypeId × Value → H} {w : World} {base : Nat} {r : Reach} {b0 : Nat} {spare : Nat → Bool} {held : Bool} {v : Value} {d : DataW H} {p : List MemPlace}
    (hv : Value.okWide Try.prog w r b0 49 v) (h : DataW.Trod enc Try.prog w base spare held 49 v d p) :
    ∃ a : Pt, v = .agg #[.int .i64 a.x, .int .i64 a.y] ∧ d = .agg [.lit (.int .i64 a.x), .lit (.int .i64 a.y)] ∧ p = [] ∧ (Lit.int .i64 a.x).wf = true ∧ (Lit.int .i64 a.y).wf = true := by
  have hs := Try.underlying49
  have hC : Try.prog.cellsOf 49 = 2 := by kernel_rfl
  obtain ⟨cs, rfl, hsz⟩ := okWide_struct hs hv
  obtain ⟨c0, c1, rfl⟩ := array2 (hsz.trans hC)
  obtain ⟨fuel, hf⟩ := h
  obtain ⟨y0, y1, n, hx, _, h0, h1⟩ := trod_struct2 hs hf
  have k3 : Try.prog.cellsOf 3 = 1 := by kernel_rfl
  simp only [Value.cells, k3, List.drop, List.take] at h0 h1
  obtain ⟨x, q0, r0, w0⟩ := DataW.trod_int Try.underlying3 h0
  obtain ⟨y, q1, r1, w1⟩ := DataW.trod_int Try.underlying3 h1
  simp at q0 q1
  subst q0 q1
  simp at hx
  refine ⟨⟨x, y⟩, rfl, ?_, ?_, w0, w1⟩
  · rw [hx.1, r0, r1]
  · rw [hx.2, r0, r1]; rfl
set_option maxRecDepth 100000 in
theorem shut_pt {H : Type} {enc : TypeId × Value → H} {w : World} {base : Nat} {spare : Nat → Bool} {held : Bool} {a : Pt}
    (w0 : (Lit.int .i64 a.x).wf = true) (w1 : (Lit.int .i64 a.y).wf = true) :
    DataW.Trod enc Try.prog w base spare held 49 (.agg #[.int .i64 a.x, .int .i64 a.y]) (.agg [.lit (.int .i64 a.x), .lit (.int .i64 a.y)]) [] := by
  have hC : Try.prog.cellsOf 49 = 2 := by kernel_rfl
  have k3 : Try.prog.cellsOf 3 = 1 := by kernel_rfl
  refine ⟨3, ?_⟩
  have := trod_struct2_mk (enc := enc) (w := w) (base := base) (spare := spare) (held := held) (n := 2) (cs := [.int .i64 a.x, .int .i64 a.y]) (y0 := (.lit (.int .i64 a.x), [])) (y1 := (.lit (.int .i64 a.y), [])) Try.underlying49 (by rw [hC]; rfl)
    (by simp [k3, DataW.trod, Try.underlying3, w0]) (by simp [k3, DataW.trod, Try.underlying3, w1])
  simpa [Value.cells] using this
theorem pt_wf {a : Pt} (w0 : (Lit.int .i64 a.x).wf = true) (w1 : (Lit.int .i64 a.y).wf = true) : a.wf := by
  have h0 := bounds_i64 w0
  have h1 := bounds_i64 w1
  exact ⟨h0.1, h0.2, h1.1, h1.2⟩
end Go.Proofs.Ytpjaefcmaiimlaa
