/-
  A slice of places that comes in: opened, its numbers ints.
-/
import Derived.Test.YtkidphekfnmhhaaOpen8
import Derived.ProofKit
import Derived.OpenShut
import Derived.Lib.SmallJoins
import Derived.Deep.SlicePairs
import Derived.Carry
namespace Go.Proofs.Ytkidphekfnmhhaa
open Go.RowKit Go.ChangeShapes Go.WideShapes Go.ChangeAt Go.Deep

set_option maxRecDepth 100000 in
theorem open_pts9 {H : Type} {enc : TypeId × Value → H} {w : World} {r : Reach} {b0 : Nat} {spare : Nat → Bool} {held : Bool} {v : Value} {d : DataW H} {p : List MemPlace}
    (hv : Value.okWide Try.prog w r b0 22 v) (h : DataW.Trod enc Try.prog w 0 spare held 22 v d p) : ∃ l : List Pt, ∃ ad cap, v = .slice ad l.length cap ∧ l.length ≤ cap ∧ (PtRow w ad l ∧ ∀ i, i < l.length → (pget l i).wf) ∧ (ad = none → cap = 0) := by
  obtain ⟨a0, len0, cap0, rfl⟩ := okWide_slice Try.underlying22 hv
  obtain ⟨fuel, hf⟩ := h
  rcases open_slice_pairs Try.underlying22 Try.underlying25 (by kernel_rfl) rfl rfl (by kernel_rfl) (by kernel_rfl) hf with ⟨hcs, -⟩ | ⟨a, len, cap, m, n, V0, V1, D0, D1, P0, P1, hcs, -, hl, hm, hmm, -, hx⟩
  · simp [Value.cells] at hcs
    obtain ⟨rfl, rfl, rfl⟩ := hcs
    exact ⟨[], none, 0, rfl, Nat.le_refl _, ⟨ptRow_nil _ _, fun i h => absurd h (Nat.not_lt_zero _)⟩, fun _ => rfl⟩
  simp [Value.cells] at hcs
  obtain ⟨rfl, rfl, rfl⟩ := hcs
  have hlm : len0 ≤ m := by rw [hmm]; split <;> omega
  have key : ∀ i, i < len0 → ∃ q : Pt, (w.cell? (a.add (i * 2)) = some (.int .i64 q.x) ∧ w.cell? (a.add (i * 2 + 1)) = some (.int .i64 q.y)) ∧ q.wf := by
    intro i hi
    obtain ⟨h1, h2, h3, h4⟩ := hx i (by omega)
    obtain ⟨x, e, -, wx⟩ := DataW.trod_int Try.underlying3 h3
    obtain ⟨y, e2, -, wy⟩ := DataW.trod_int Try.underlying3 h4
    simp at e e2
    have bx := bounds_i64 wx
    have bY := bounds_i64 wy
    exact ⟨⟨x, y⟩, ⟨by rw [h1, e], by rw [h2, e2]⟩, ⟨by dsimp only; omega, by dsimp only; omega, by dsimp only; omega, by dsimp only; omega⟩⟩
  obtain ⟨f, hf'⟩ := choose_lt key
  have hll : ((List.range len0).map f).length = len0 := by simp
  refine ⟨(List.range len0).map f, some a, cap0, by rw [hll], by rw [hll]; exact hl, ⟨fun i hi => ?_, fun i hi => ?_⟩, fun h => (by cases h)⟩
  rotate_left
  · rw [hll] at hi
    have e : pget ((List.range len0).map f) i = f i := by unfold pget; simp [List.getD, hi]
    rw [e]
    exact (hf' i hi).2
  rw [hll] at hi
  obtain ⟨g, o, sp⟩ := a
  have hsp : sp = none := by simpa [Addr.add] using World.cell?_spot (hf' 0 (by omega)).1.1
  subst hsp
  have h1 := (hf' i hi).1
  rw [add_plain, add_plain] at h1
  have e : pget ((List.range len0).map f) i = f i := by unfold pget; simp [List.getD, hi]
  rw [e]
  exact ⟨g, o, rfl, h1.1, by have := h1.2; rw [show o + (i * 2 + 1) = o + i * 2 + 1 by omega] at this; exact this⟩
end Go.Proofs.Ytkidphekfnmhhaa
