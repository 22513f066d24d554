/-
  A Wide that comes in: opened, and read again in whatever world.
-/
import Derived.Test.YtbgbmimgkhchhaaRows
import Derived.Test.YtbgbmimgkhchhaaPlain
import Derived.ProofKit
import Derived.OpenShut
import Derived.Lib.SmallJoins
namespace Go.Proofs.Ytbgbmimgkhchhaa
open Go.RowKit Go.ChangeShapes Go.WideShapes Go.ChangeAt Go.Joins

theorem array5 {α : Type} {cs : Array α} (h : cs.size = 5) : ∃ c0 c1 c2 c3 c4, cs = #[c0, c1, c2, c3, c4] := by
  obtain ⟨l⟩ := cs
  match l, h with
  | [c0, c1, c2, c3, c4], _ => exact ⟨c0, c1, c2, c3, c4, rfl⟩

theorem open_wide {H : Type} {enc : TypeId × Value → H} {w : World} {base : Nat} {r : Reach} {b0 : Nat} {spare : Nat → Bool} {held : Bool} {v : Value} {d : DataW H} {p : List MemPlace}
    (hv : Value.okWide Try.prog w r b0 25 v) (h : DataW.Trod enc Try.prog w base spare held 25 v d p) :
    ∃ (m : Bool) (x y z u : Int), v = (.agg #[.bool m, .int .u64 x, .int .u64 y, .int .u64 z, .int .u64 u]) ∧ In4 x y z u ∧ d = .agg [.lit (.bool m), .agg [.lit (.int .u64 x), .lit (.int .u64 y), .lit (.int .u64 z), .lit (.int .u64 u)]] ∧ p = [] ∧ (Lit.int .u64 x).wf = true ∧ (Lit.int .u64 y).wf = true ∧ (Lit.int .u64 z).wf = true ∧ (Lit.int .u64 u).wf = true := by
  have hs := Try.underlying25
  have hC : Try.prog.cellsOf 25 = 5 := by kernel_rfl
  obtain ⟨cs, rfl, hsz⟩ := okWide_struct hs hv
  obtain ⟨c0, c1, c2, c3, c4, rfl⟩ := array5 (hsz.trans hC)
  obtain ⟨fuel, hf⟩ := h
  obtain ⟨y0, y1, n, hx, _, h0, h1⟩ := trod_struct2 hs hf
  have k4 : Try.prog.cellsOf 4 = 1 := by kernel_rfl
  have k22 : Try.prog.cellsOf 22 = 1 := by kernel_rfl
  have k23 : Try.prog.cellsOf 23 = 4 := by kernel_rfl
  simp only [Value.cells, k4, k23, List.drop, List.take] at h0 h1
  obtain ⟨m, e0, hy0⟩ := DataW.trod_bool Try.underlying4 h0
  obtain ⟨xs, n', rfl, hx1, _, hl, hi⟩ := DataW.trod_array Try.underlying23 h1
  match xs, hl with
  | [z0, z1, z2, z3], _ =>
    have g0 := hi 0 (by omega)
    have g1 := hi 1 (by omega)
    have g2 := hi 2 (by omega)
    have g3 := hi 3 (by omega)
    simp only [k22, Nat.mul_one, List.drop, List.take] at g0 g1 g2 g3
    obtain ⟨a0, q0, r0, w0⟩ := DataW.trod_int Try.underlying22 g0
    obtain ⟨a1, q1, r1, w1⟩ := DataW.trod_int Try.underlying22 g1
    obtain ⟨a2, q2, r2, w2⟩ := DataW.trod_int Try.underlying22 g2
    obtain ⟨a3, q3, r3, w3⟩ := DataW.trod_int Try.underlying22 g3
    have b0 := bounds_u64 w0
    have b1 := bounds_u64 w1
    have b2 := bounds_u64 w2
    have b3 := bounds_u64 w3
    simp at e0 q0 q1 q2 q3
    subst e0 q0 q1 q2 q3
    simp at hx
    refine ⟨m, a0, a1, a2, a3, rfl, by unfold In4 In1; omega, ?_, ?_, w0, w1, w2, w3⟩
    · rw [hx.1, hy0, hx1, r0, r1, r2, r3]; rfl
    · rw [hx.2, hy0, hx1, r0, r1, r2, r3]; rfl
theorem shut_wide {H : Type} {enc : TypeId × Value → H} {w : World} {base : Nat} {spare : Nat → Bool} {held : Bool} {m : Bool} {x y z u : Int}
    (w0 : (Lit.int .u64 x).wf = true) (w1 : (Lit.int .u64 y).wf = true) (w2 : (Lit.int .u64 z).wf = true) (w3 : (Lit.int .u64 u).wf = true) :
    DataW.Trod enc Try.prog w base spare held 25 (.agg #[.bool m, .int .u64 x, .int .u64 y, .int .u64 z, .int .u64 u]) (.agg [.lit (.bool m), .agg [.lit (.int .u64 x), .lit (.int .u64 y), .lit (.int .u64 z), .lit (.int .u64 u)]]) [] := by
  have hC : Try.prog.cellsOf 25 = 5 := by kernel_rfl
  have k4 : Try.prog.cellsOf 4 = 1 := by kernel_rfl
  have k22 : Try.prog.cellsOf 22 = 1 := by kernel_rfl
  have k23 : Try.prog.cellsOf 23 = 4 := by kernel_rfl
  have hL : DataW.trod enc Try.prog w base spare held 2 23 [.int .u64 x, .int .u64 y, .int .u64 z, .int .u64 u] = some (.agg [.lit (.int .u64 x), .lit (.int .u64 y), .lit (.int .u64 z), .lit (.int .u64 u)], []) := by
    unfold DataW.trod
    rw [Try.underlying23]
    simp only [k22, k23]
    simp [List.range, List.range.loop, DataW.trod, Try.underlying22, w0, w1, w2, w3]
  refine ⟨3, ?_⟩
  have := trod_struct2_mk (enc := enc) (w := w) (base := base) (spare := spare) (held := held) (n := 2) (cs := [.bool m, .int .u64 x, .int .u64 y, .int .u64 z, .int .u64 u]) (y0 := (.lit (.bool m), [])) (y1 := (.agg [.lit (.int .u64 x), .lit (.int .u64 y), .lit (.int .u64 z), .lit (.int .u64 u)], [])) Try.underlying25 (by rw [hC]; rfl)
    (by simp [k4, DataW.trod, Try.underlying4]) (by simpa [k23] using hL)
  simpa [Value.cells] using this
end Go.Proofs.Ytbgbmimgkhchhaa
