/-
  A slice of segments that comes in: opened.
-/
import Derived.Test.YtojfggnimmaemaaFirsts
import Derived.Test.YtojfggnimmaemaaRows
import Derived.ProofKit
import Derived.Lib.SmallJoins
import Derived.Deep.Slices
import Derived.Deep.SlicePairs
import Derived.OpenShut
import Derived.Carry
namespace Go.Proofs.Ytojfggnimmaemaa
open Go.RowKit Go.ChangeShapes Go.WideShapes Go.ChangeAt Go.Deep Go.Joins

instance : Inhabited Sg := ⟨⟨⟨0, 0⟩, ⟨0, 0⟩⟩⟩
theorem list4 {α : Type} {l : List α} (h : l.length = 4) : ∃ a b c d, l = [a, b, c, d] := by
  match l, h with
  | [a, b, c, d], _ => exact ⟨a, b, c, d, rfl⟩
set_option maxRecDepth 100000 in
theorem trod_pt2 {H : Type} {enc : TypeId × Value → H} {w : World} {base fuel : Nat} {spare : Nat → Bool} {held : Bool} {u v : Value} {x : DataW H × List MemPlace}
    (h : DataW.trod enc Try.prog w base spare held fuel 23 [u, v] = some x) : ∃ p : Pt, u = .int .i64 p.x ∧ v = .int .i64 p.y := by
  have k3 : Try.prog.cellsOf 3 = 1 := by kernel_rfl
  obtain ⟨y0, y1, n, hx, _, h0, h1⟩ := trod_struct2 Try.underlying23 h
  simp only [k3, List.drop, List.take] at h0 h1
  obtain ⟨x, q0, r0, w0⟩ := DataW.trod_int Try.underlying3 h0
  obtain ⟨y, q1, r1, w1⟩ := DataW.trod_int Try.underlying3 h1
  simp at q0 q1
  exact ⟨⟨x, y⟩, q0, q1⟩
set_option maxRecDepth 100000 in
theorem open_segs {H : Type} {enc : TypeId × Value → H} {w : World} {r : Reach} {b0 : Nat} {spare : Nat → Bool} {held : Bool} {v : Value} {d : DataW H} {p : List MemPlace}
    (hv : Value.okWide Try.prog w r b0 58 v) (h : DataW.Trod enc Try.prog w 0 spare held 58 v d p) : ∃ l : List Sg, SegRow w v l := by
  obtain ⟨a0, len0, cap0, rfl⟩ := okWide_slice Try.underlying58 hv
  obtain ⟨fuel, hf⟩ := h
  have ce : Try.prog.cellsOf 61 = 4 := by kernel_rfl
  have cp : Try.prog.cellsOf 23 = 2 := by kernel_rfl
  rcases open_slice Try.underlying58 hf with ⟨hcs, -⟩ | ⟨a, len, cap, m, n, D, Pl, hcs, -, hl, hm, hmm, -, hx⟩
  · simp [Value.cells] at hcs
    obtain ⟨rfl, rfl, rfl⟩ := hcs
    exact ⟨[], none, 0, rfl, fun _ => rfl, fun h => absurd h (by simp)⟩
  simp [Value.cells] at hcs
  obtain ⟨rfl, rfl, rfl⟩ := hcs
  have hlm : len0 ≤ m := by rw [hmm]; split <;> omega
  have key : ∀ i, i < len0 → ∃ q : Sg, w.cell? (a.add (i * 4)) = some (.int .i64 q.a.x) ∧ w.cell? (a.add (i * 4 + 1)) = some (.int .i64 q.a.y) ∧ w.cell? (a.add (i * 4 + 2)) = some (.int .i64 q.b.x) ∧ w.cell? (a.add (i * 4 + 3)) = some (.int .i64 q.b.y) := by
    intro i hi
    obtain ⟨cs', h1, h2⟩ := hx i (by omega)
    rw [ce] at h1
    obtain ⟨_, hlen, hcell⟩ := World.cells?_some h1
    obtain ⟨c0, c1, c2, c3, rfl⟩ := list4 hlen
    obtain ⟨xs, k, _, _, _, hxl, hg⟩ := DataW.trod_array Try.underlying61 h2
    have g0 := hg 0 (by omega)
    have g1 := hg 1 (by omega)
    simp only [cp, Nat.zero_mul, Nat.one_mul, List.drop, List.take] at g0 g1
    match xs, hxl with
    | [y0, y1], _ =>
      obtain ⟨p0, e0, e1⟩ := trod_pt2 g0
      obtain ⟨p1, e2, e3⟩ := trod_pt2 g1
      have d0 := hcell 0 (by omega)
      have d1 := hcell 1 (by omega)
      have d2 := hcell 2 (by omega)
      have d3 := hcell 3 (by omega)
      rw [add_add] at d0 d1 d2 d3
      refine ⟨⟨p0, p1⟩, ?_, ?_, ?_, ?_⟩
      · rw [← e0]; simpa using d0
      · rw [← e1]; simpa using d1
      · rw [← e2]; simpa using d2
      · rw [← e3]; simpa using d3
  obtain ⟨f, hf'⟩ := choose_lt key
  refine ⟨(List.range len0).map f, some a, cap0, by simp, fun h => (by cases h), fun h0 => ?_⟩
  obtain ⟨g, o, sp⟩ := a
  have hsp : sp = none := by simpa [Addr.add] using World.cell?_spot (hf' 0 (by simpa using h0)).1
  subst hsp
  refine ⟨g, o, rfl, fun i hi => ?_⟩
  have hi' : i < len0 := by simpa using hi
  have h1 := hf' i hi'
  rw [add_plain, add_plain, add_plain, add_plain] at h1
  have e : sget ((List.range len0).map f) i = f i := by unfold sget; simp [List.getD, hi']
  rw [e]
  exact ⟨h1.1, by have := h1.2.1; rw [show o + (i * 4 + 1) = o + i * 4 + 1 by omega] at this; exact this, by have := h1.2.2.1; rw [show o + (i * 4 + 2) = o + i * 4 + 2 by omega] at this; exact this, by have := h1.2.2.2; rw [show o + (i * 4 + 3) = o + i * 4 + 3 by omega] at this; exact this⟩
end Go.Proofs.Ytojfggnimmaemaa
