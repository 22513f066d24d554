/-
  Slices of segments, of places, of numbers, that come in: opened.
-/
import Derived.Test.YtpjaefcmaiimlaaRMems
import Derived.ProofKit
import Derived.OpenShut
import Derived.Lib.SmallJoins
import Derived.Deep.SlicePairs
import Derived.Carry
set_option linter.unusedVariables false
set_option linter.unusedSimpArgs false
set_option linter.deprecated false
namespace Go.Proofs.Ytpjaefcmaiimlaa
open Go.RowKit Go.ChangeShapes Go.WideShapes Go.ChangeAt Go.Deep

set_option maxRecDepth 100000 in
theorem open_segs8 {H : Type} {enc : TypeId × Value → H} {w : World} {r : Reach} {b0 : Nat} {spare : Nat → Bool} {held : Bool} {v : Value} {d : DataW H} {p : List MemPlace}
    (hv : Value.okWide Try.prog w r b0 36 v) (h : DataW.Trod enc Try.prog w 0 spare held 36 v d p) : ∃ l : List Pt, ∃ ad cap, v = .slice ad l.length cap ∧ l.length ≤ cap ∧ PtRow w ad l ∧ (ad = none → cap = 0) := by
  obtain ⟨a0, len0, cap0, rfl⟩ := okWide_slice Try.underlying36 hv
  obtain ⟨fuel, hf⟩ := h
  rcases open_slice_pairs Try.underlying36 Try.underlying57 (by kernel_rfl) rfl rfl (by kernel_rfl) (by kernel_rfl) hf with ⟨hcs, -⟩ | ⟨a, len, cap, m, n, V0, V1, D0, D1, P0, P1, hcs, -, hl, hm, hmm, -, hx⟩
  · simp [Value.cells] at hcs
    obtain ⟨rfl, rfl, rfl⟩ := hcs
    exact ⟨[], none, 0, rfl, Nat.le_refl _, ptRow_nil _ _, fun _ => rfl⟩
  simp [Value.cells] at hcs
  obtain ⟨rfl, rfl, rfl⟩ := hcs
  have hlm : len0 ≤ m := by rw [hmm]; split <;> omega
  have key : ∀ i, i < len0 → ∃ q : Pt, w.cell? (a.add (i * 2)) = some (.int .i64 q.x) ∧ w.cell? (a.add (i * 2 + 1)) = some (.int .i64 q.y) := by
    intro i hi
    obtain ⟨h1, h2, h3, h4⟩ := hx i (by omega)
    obtain ⟨x, e, -, -⟩ := DataW.trod_int Try.underlying3 h3
    obtain ⟨y, e2, -, -⟩ := DataW.trod_int Try.underlying3 h4
    simp at e e2
    exact ⟨⟨x, y⟩, by rw [h1, e], by rw [h2, e2]⟩
  obtain ⟨f, hf'⟩ := choose_lt key
  have hll : ((List.range len0).map f).length = len0 := by simp
  refine ⟨(List.range len0).map f, some a, cap0, by rw [hll], by rw [hll]; exact hl, fun i hi => ?_, fun h => (by cases h)⟩
  rw [hll] at hi
  obtain ⟨g, o, sp⟩ := a
  have hsp : sp = none := by simpa [Addr.add] using World.cell?_spot (hf' 0 (by omega)).1
  subst hsp
  have h1 := hf' i hi
  rw [add_plain, add_plain] at h1
  have e : pget ((List.range len0).map f) i = f i := by unfold pget; simp [List.getD, hi]
  rw [e]
  exact ⟨g, o, rfl, h1.1, by have := h1.2; rw [show o + (i * 2 + 1) = o + i * 2 + 1 by omega] at this; exact this⟩
set_option maxRecDepth 100000 in
theorem open_pts8 {H : Type} {enc : TypeId × Value → H} {w : World} {r : Reach} {b0 : Nat} {spare : Nat → Bool} {held : Bool} {v : Value} {d : DataW H} {p : List MemPlace}
    (hv : Value.okWide Try.prog w r b0 35 v) (h : DataW.Trod enc Try.prog w 0 spare held 35 v d p) : ∃ l : List Pt, ∃ ad cap, v = .slice ad l.length cap ∧ l.length ≤ cap ∧ PtRow w ad l ∧ (ad = none → cap = 0) := by
  obtain ⟨a0, len0, cap0, rfl⟩ := okWide_slice Try.underlying35 hv
  obtain ⟨fuel, hf⟩ := h
  rcases open_slice_pairs Try.underlying35 Try.underlying49 (by kernel_rfl) rfl rfl (by kernel_rfl) (by kernel_rfl) hf with ⟨hcs, -⟩ | ⟨a, len, cap, m, n, V0, V1, D0, D1, P0, P1, hcs, -, hl, hm, hmm, -, hx⟩
  · simp [Value.cells] at hcs
    obtain ⟨rfl, rfl, rfl⟩ := hcs
    exact ⟨[], none, 0, rfl, Nat.le_refl _, ptRow_nil _ _, fun _ => rfl⟩
  simp [Value.cells] at hcs
  obtain ⟨rfl, rfl, rfl⟩ := hcs
  have hlm : len0 ≤ m := by rw [hmm]; split <;> omega
  have key : ∀ i, i < len0 → ∃ q : Pt, w.cell? (a.add (i * 2)) = some (.int .i64 q.x) ∧ w.cell? (a.add (i * 2 + 1)) = some (.int .i64 q.y) := by
    intro i hi
    obtain ⟨h1, h2, h3, h4⟩ := hx i (by omega)
    obtain ⟨x, e, -, -⟩ := DataW.trod_int Try.underlying3 h3
    obtain ⟨y, e2, -, -⟩ := DataW.trod_int Try.underlying3 h4
    simp at e e2
    exact ⟨⟨x, y⟩, by rw [h1, e], by rw [h2, e2]⟩
  obtain ⟨f, hf'⟩ := choose_lt key
  have hll : ((List.range len0).map f).length = len0 := by simp
  refine ⟨(List.range len0).map f, some a, cap0, by rw [hll], by rw [hll]; exact hl, fun i hi => ?_, fun h => (by cases h)⟩
  rw [hll] at hi
  obtain ⟨g, o, sp⟩ := a
  have hsp : sp = none := by simpa [Addr.add] using World.cell?_spot (hf' 0 (by omega)).1
  subst hsp
  have h1 := hf' i hi
  rw [add_plain, add_plain] at h1
  have e : pget ((List.range len0).map f) i = f i := by unfold pget; simp [List.getD, hi]
  rw [e]
  exact ⟨g, o, rfl, h1.1, by have := h1.2; rw [show o + (i * 2 + 1) = o + i * 2 + 1 by omega] at this; exact this⟩
set_option maxRecDepth 100000 in
theorem open_ints8 {H : Type} {enc : TypeId × Value → H} {w : World} {r : Reach} {b0 : Nat} {spare : Nat → Bool} {held : Bool} {v : Value} {d : DataW H} {p : List MemPlace}
    (hv : Value.okWide Try.prog w r b0 54 v) (h : DataW.Trod enc Try.prog w 0 spare held 54 v d p) : ∃ l : List Int, IsInts w v l ∧ ∀ x ∈ l, -9223372036854775808 ≤ x ∧ x ≤ 9223372036854775807 := by
  obtain ⟨a0, len0, cap0, rfl⟩ := okWide_slice Try.underlying54 hv
  obtain ⟨fuel, hf⟩ := h
  have hC : Try.prog.cellsOf 3 = 1 := by kernel_rfl
  rcases open_slice1 Try.underlying54 hC hf with ⟨hcs, -⟩ | ⟨a, len, cap, m, n, V, D, Pl, hcs, -, hl, hm, hmm, -, hx⟩
  · simp [Value.cells] at hcs
    obtain ⟨rfl, rfl, rfl⟩ := hcs
    exact ⟨[], ⟨none, 0, rfl, Nat.le_refl _, intRow_nil _ _, fun _ => rfl⟩, fun x h => absurd h (by simp)⟩
  simp [Value.cells] at hcs
  obtain ⟨rfl, rfl, rfl⟩ := hcs
  have hlm : len0 ≤ m := by rw [hmm]; split <;> omega
  have key : ∀ i, i < len0 → ∃ z : Int, w.cell? (a.add i) = some (.int .i64 z) ∧ -9223372036854775808 ≤ z ∧ z ≤ 9223372036854775807 := by
    intro i hi
    obtain ⟨h1, h2⟩ := hx i (by omega)
    obtain ⟨z, e, -, wz⟩ := DataW.trod_int Try.underlying3 h2
    simp at e
    have := bounds_i64 wz
    exact ⟨z, by rw [h1, e], by omega, by omega⟩
  obtain ⟨f, hf'⟩ := choose_lt key
  have hll : ((List.range len0).map f).length = len0 := by simp
  refine ⟨(List.range len0).map f, ⟨some a, cap0, by rw [hll], by rw [hll]; exact hl, fun i hi => ?_, fun h => (by cases h)⟩, fun x hx => ?_⟩
  · rw [hll] at hi
    obtain ⟨g, o, sp⟩ := a
    have hsp : sp = none := by simpa [Addr.add] using World.cell?_spot (hf' 0 (by omega)).1
    subst hsp
    refine ⟨g, o, rfl, ?_⟩
    have h1 := (hf' i hi).1
    rw [add_plain] at h1
    rw [h1]
    simp
  · obtain ⟨i, hi, rfl⟩ := List.mem_map.1 hx
    exact (hf' i (by simpa using hi)).2
theorem u8_nat {n : Int} (h : (Lit.int .u8 n).wf = true) : ∃ m : Nat, m < 256 ∧ n = (m : Int) := by
  have := bounds_u8 h
  exact ⟨n.toNat, by omega, by omega⟩
end Go.Proofs.Ytpjaefcmaiimlaa
