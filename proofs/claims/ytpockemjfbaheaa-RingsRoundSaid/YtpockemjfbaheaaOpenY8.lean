/-
  A slice of bytes that comes in: opened.
-/
import Derived.Test.YtpockemjfbaheaaOpen8
import Derived.Test.YtpockemjfbaheaaRRnd
import Derived.ChangeArms
namespace Go.Proofs.Ytpockemjfbaheaa
open Go.RowKit Go.ChangeShapes Go.WideShapes Go.ChangeAt Go.Deep

set_option maxRecDepth 100000 in
theorem open_bytes8 {H : Type} {enc : TypeId × Value → H} {w : World} {r : Reach} {b0 : Nat} {spare : Nat → Bool} {held : Bool} {v : Value} {d : DataW H} {p : List MemPlace}
    (hv : Value.okWide Try.prog w r b0 61 v) (h : DataW.Trod enc Try.prog w 0 spare held 61 v d p) : ∃ (l : List Int) (ad : Option Addr) (cap : Nat), v = .slice ad l.length cap ∧ ByteRow w ad l ∧ ∀ x ∈ l, 0 ≤ x ∧ x < 256 := by
  obtain ⟨a0, len0, cap0, rfl⟩ := okWide_slice Try.underlying61 hv
  obtain ⟨fuel, hf⟩ := h
  have hC : Try.prog.cellsOf 5 = 1 := by kernel_rfl
  rcases open_slice1 Try.underlying61 hC hf with ⟨hcs, -⟩ | ⟨a, len, cap, m, n, V, D, Pl, hcs, -, hl, hm, hmm, -, hx⟩
  · simp [Value.cells] at hcs
    obtain ⟨rfl, rfl, rfl⟩ := hcs
    exact ⟨[], none, 0, rfl, fun i h => absurd h (Nat.not_lt_zero _), fun x h => absurd h (by simp)⟩
  simp [Value.cells] at hcs
  obtain ⟨rfl, rfl, rfl⟩ := hcs
  have hlm : len0 ≤ m := by rw [hmm]; split <;> omega
  have key : ∀ i, i < len0 → ∃ z : Int, w.cell? (a.add i) = some (.int .u8 z) ∧ 0 ≤ z ∧ z < 256 := by
    intro i hi
    obtain ⟨h1, h2⟩ := hx i (by omega)
    obtain ⟨z, e, -, wz⟩ := DataW.trod_int Try.underlying5 h2
    simp at e
    have := bounds_u8 wz
    exact ⟨z, by rw [h1, e], this.1, by omega⟩
  obtain ⟨f, hf'⟩ := choose_lt key
  have hll : ((List.range len0).map f).length = len0 := by simp
  refine ⟨(List.range len0).map f, some a, cap0, by rw [hll], fun i hi => ?_, fun x hx => ?_⟩
  · rw [hll] at hi
    obtain ⟨g, o, sp⟩ := a
    have hsp : sp = none := by simpa [Addr.add] using World.cell?_spot (hf' 0 (by omega)).1
    subst hsp
    refine ⟨g, o, rfl, ?_⟩
    have h1 := (hf' i hi).1
    rw [add_plain] at h1
    rw [h1]
    simp
  · obtain ⟨i, hi, rfl⟩ := List.mem_map.1 hx
    exact (hf' i (by simpa using hi)).2
end Go.Proofs.Ytpockemjfbaheaa
