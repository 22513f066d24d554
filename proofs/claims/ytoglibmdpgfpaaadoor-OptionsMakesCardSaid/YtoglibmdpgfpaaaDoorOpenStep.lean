/-
  Steps that come in: a slice of structs of three cells, opened.
-/
import Derived.Test.YtoglibmdpgfpaaaDoorOpSteps
import Derived.Test.YtoglibmdpgfpaaaDoorRows
import Derived.ProofKit
import Derived.OpenShut
import Derived.Deep.Strs
import Derived.Deep.SlicePairs
set_option linter.unusedVariables false
set_option linter.unusedSimpArgs false
set_option linter.deprecated false
namespace Go.Proofs.YtoglibmdpgfpaaaDoor
open Go.RowKit Go.ChangeShapes Go.WideShapes Go.ChangeAt Go.Deep

set_option maxRecDepth 100000 in
theorem open_steps {H : Type} {enc : TypeId × Value → H} {w : World} {r : Reach} {b0 : Nat} {spare : Nat → Bool} {held : Bool} {v : Value} {d : DataW H} {p : List MemPlace}
    (hv : Value.okWide Tryd.prog w r b0 72 v) (h : DataW.Trod enc Tryd.prog w 0 spare held 72 v d p) :
    ∃ (L : List Sp6) (ad : Option Addr) (cp : Nat), v = .slice ad L.length cp ∧ L.length ≤ 9223372036854775807 ∧ SpRow6 w ad L := by
  obtain ⟨a0, len0, cap0, rfl⟩ := okWide_slice Tryd.underlying72 hv
  obtain ⟨fuel, hf⟩ := h
  have hC : Tryd.prog.cellsOf 74 = 3 := by kernel_rfl
  have k3 : Tryd.prog.cellsOf 3 = 1 := by kernel_rfl
  have k4 : Tryd.prog.cellsOf 4 = 1 := by kernel_rfl
  rcases open_slice Tryd.underlying72 hf with ⟨hcs, -⟩ | ⟨a, len, cap, m, n, D, Pl, hcs, -, hl, hm, hmm, -, hx⟩
  · simp [Value.cells] at hcs
    obtain ⟨rfl, rfl, rfl⟩ := hcs
    exact ⟨[], none, 0, rfl, by simp, fun i hi => absurd hi (by simp)⟩
  simp [Value.cells] at hcs
  obtain ⟨rfl, rfl, rfl⟩ := hcs
  have hlm : len0 ≤ m := by rw [hmm]; split <;> omega
  have key : ∀ i, i < len0 → ∃ s : Sp6, w.cell? (a.add (i * 3)) = some (.int .i64 s.k) ∧ w.cell? (a.add (i * 3 + 1)) = some (.int .i64 s.n) ∧ w.cell? (a.add (i * 3 + 2)) = some (.bool s.on) := by
    intro i hi
    obtain ⟨cs', h1, h2⟩ := hx i (by omega)
    rw [hC] at h1
    obtain ⟨_, hlen, hcell⟩ := World.cells?_some h1
    obtain ⟨y0, y1, y2, n', hxy, _, g0, g1, g2⟩ := trod_struct3 Tryd.underlying74 h2
    match cs', hlen with
    | [v0, v1, v2], _ =>
      simp only [k3, k4, List.drop, List.take] at g0 g1 g2
      obtain ⟨x, q0, -, -⟩ := DataW.trod_int Tryd.underlying3 g0
      obtain ⟨y, q1, -, -⟩ := DataW.trod_int Tryd.underlying3 g1
      obtain ⟨z, q2, -⟩ := DataW.trod_bool Tryd.underlying4 g2
      simp at q0 q1 q2
      subst q0 q1 q2
      have e0 := hcell 0 (by omega)
      have e1 := hcell 1 (by omega)
      have e2 := hcell 2 (by omega)
      rw [add_add] at e0 e1 e2
      exact ⟨⟨x, y, z⟩, by simpa using e0, by simpa using e1, by simpa using e2⟩
  obtain ⟨f, hf'⟩ := choose_lt key
  have hll : ((List.range len0).map f).length = len0 := by simp
  refine ⟨(List.range len0).map f, some a, cap0, by rw [hll], by rw [hll]; unfold maxLen at hm; omega, fun i hi => ?_⟩
  rw [hll] at hi
  obtain ⟨g, o, sp⟩ := a
  have hsp : sp = none := by simpa [Addr.add] using World.cell?_spot (hf' 0 (by omega)).1
  subst hsp
  have h1 := hf' i hi
  rw [add_plain, add_plain, add_plain] at h1
  refine ⟨g, o, rfl, ?_, ?_, ?_⟩
  · simpa using h1.1
  · have := h1.2.1; rw [show o + (i * 3 + 1) = o + i * 3 + 1 by omega] at this; simpa using this
  · have := h1.2.2; rw [show o + (i * 3 + 2) = o + i * 3 + 2 by omega] at this; simpa using this
end Go.Proofs.YtoglibmdpgfpaaaDoor
