/-
  A []Wide that comes in: opened.
-/
import Derived.Test.YtbgbmimgkhchhaaOpen
import Derived.Test.YtbgbmimgkhchhaaFold
import Derived.Deep.Slices
namespace Go.Proofs.Ytbgbmimgkhchhaa
open Go.RowKit Go.ChangeShapes Go.WideShapes Go.ChangeAt Go.Joins Go.Deep

theorem cells5 {w : World} {a : Addr} {cs : List Value} (h : w.cells? 0 a 5 = some cs) :
    ∃ c0 c1 c2 c3 c4, cs = [c0, c1, c2, c3, c4] ∧ w.cell? a = some c0 ∧ w.cell? (a.add 1) = some c1 ∧ w.cell? (a.add 2) = some c2 ∧ w.cell? (a.add 3) = some c3 ∧ w.cell? (a.add 4) = some c4 := by
  obtain ⟨-, hlen, hc⟩ := World.cells?_some h
  match cs, hlen with
  | [c0, c1, c2, c3, c4], _ =>
    have h0 := hc 0 (by omega)
    have h1 := hc 1 (by omega)
    have h2 := hc 2 (by omega)
    have h3 := hc 3 (by omega)
    have h4 := hc 4 (by omega)
    exact ⟨c0, c1, c2, c3, c4, rfl, by simpa [Addr.add] using h0, by simpa using h1, by simpa using h2, by simpa using h3, by simpa using h4⟩

/-- what five cells are that read as a Wide -/
theorem open_wide_cells {H : Type} {enc : TypeId × Value → H} {w : World} {base fuel : Nat} {spare : Nat → Bool} {held : Bool} {c0 c1 c2 c3 c4 : Value} {x : DataW H × List MemPlace}
    (h : DataW.trod enc Try.prog w base spare held fuel 25 [c0, c1, c2, c3, c4] = some x) :
    ∃ (m : Bool) (x y z u : Int), c0 = .bool m ∧ c1 = .int .u64 x ∧ c2 = .int .u64 y ∧ c3 = .int .u64 z ∧ c4 = .int .u64 u ∧ In4 x y z u := by
  have hs := Try.underlying25
  obtain ⟨y0, y1, n, hx, _, h0, h1⟩ := trod_struct2 hs h
  have k4 : Try.prog.cellsOf 4 = 1 := by kernel_rfl
  have k22 : Try.prog.cellsOf 22 = 1 := by kernel_rfl
  have k23 : Try.prog.cellsOf 23 = 4 := by kernel_rfl
  simp only [k4, k23, List.drop, List.take] at h0 h1
  obtain ⟨m, e0, hy0⟩ := DataW.trod_bool Try.underlying4 h0
  obtain ⟨xs, n', rfl, hx1, _, hl, hi⟩ := DataW.trod_array Try.underlying23 h1
  match xs, hl with
  | [z0, z1, z2, z3], _ =>
    have g0 := hi 0 (by omega)
    have g1 := hi 1 (by omega)
    have g2 := hi 2 (by omega)
    have g3 := hi 3 (by omega)
    simp only [k22, Nat.mul_one, List.drop, List.take] at g0 g1 g2 g3
    obtain ⟨a0, q0, r0, w0⟩ := DataW.trod_int Try.underlying22 g0
    obtain ⟨a1, q1, r1, w1⟩ := DataW.trod_int Try.underlying22 g1
    obtain ⟨a2, q2, r2, w2⟩ := DataW.trod_int Try.underlying22 g2
    obtain ⟨a3, q3, r3, w3⟩ := DataW.trod_int Try.underlying22 g3
    have b0 := bounds_u64 w0
    have b1 := bounds_u64 w1
    have b2 := bounds_u64 w2
    have b3 := bounds_u64 w3
    simp at e0 q0 q1 q2 q3
    subst e0 q0 q1 q2 q3
    exact ⟨m, a0, a1, a2, a3, rfl, rfl, rfl, rfl, rfl, by unfold In4 In1; omega⟩

instance : Inhabited Wd := ⟨⟨false, 0, 0, 0, 0⟩⟩

/-- a []Wide: of no element, or its Wides lie in memory -/
theorem open_wides {H : Type} {enc : TypeId × Value → H} {w : World} {r : Reach} {b0 : Nat} {spare : Nat → Bool} {held : Bool} {v : Value} {d : DataW H} {p : List MemPlace}
    (hv : Value.okWide Try.prog w r b0 48 v) (h : DataW.Trod enc Try.prog w 0 spare held 48 v d p) :
    (∃ ad cp, v = .slice ad 0 cp) ∨ ∃ (g o cap : Nat) (l : List Wd), v = .slice (some ⟨g, o, none⟩) l.length cap ∧ 0 < l.length ∧ l.length ≤ maxLen ∧ WidesAt w g o l := by
  obtain ⟨a0, len0, cap0, rfl⟩ := okWide_slice Try.underlying48 hv
  obtain ⟨fuel, hf⟩ := h
  have k5 : Try.prog.cellsOf 25 = 5 := by kernel_rfl
  rcases open_slice Try.underlying48 hf with ⟨hcs, -⟩ | ⟨a, len, cap, m, n, D, Pl, hcs, -, hl, hm, hmm, -, hx⟩
  · simp [Value.cells] at hcs
    exact .inl ⟨_, _, by rw [hcs.2.1]⟩
  simp [Value.cells] at hcs
  obtain ⟨rfl, rfl, rfl⟩ := hcs
  rcases Nat.eq_zero_or_pos len0 with rfl | hp
  · exact .inl ⟨_, _, rfl⟩
  right
  have hlm : len0 ≤ m := by rw [hmm]; split <;> omega
  have key : ∀ i, i < len0 → ∃ x : Wd, x.ok ∧ w.cell? (a.add (i * 5)) = some (.bool x.m) ∧ w.cell? ((a.add (i * 5)).add 1) = some (.int .u64 x.a) ∧ w.cell? ((a.add (i * 5)).add 2) = some (.int .u64 x.b) ∧ w.cell? ((a.add (i * 5)).add 3) = some (.int .u64 x.c) ∧ w.cell? ((a.add (i * 5)).add 4) = some (.int .u64 x.d) := by
    intro i hi
    obtain ⟨cs', h1, h2⟩ := hx i (by omega)
    rw [k5] at h1
    obtain ⟨c0, c1, c2, c3, c4, rfl, e0, e1, e2, e3, e4⟩ := cells5 h1
    obtain ⟨mm, x, y, z, u, rfl, rfl, rfl, rfl, rfl, hi4⟩ := open_wide_cells h2
    exact ⟨⟨mm, x, y, z, u⟩, hi4, e0, e1, e2, e3, e4⟩
  obtain ⟨f, hf'⟩ := choose_lt key
  obtain ⟨g, o, sp⟩ := a
  have hsp : sp = none := by simpa [Addr.add] using World.cell?_spot (hf' 0 hp).2.1
  subst hsp
  refine ⟨g, o, cap0, (List.range len0).map f, by simp, by simpa using hp, by simp; omega, fun i hi => ?_⟩
  have hi' : i < len0 := by simpa using hi
  have e : Wd.get ((List.range len0).map f) i = f i := by simp [Wd.get, List.getD, hi']
  rw [e]
  obtain ⟨hok, q0, q1, q2, q3, q4⟩ := hf' i hi'
  rw [add_plain] at q0 q1 q2 q3 q4
  rw [add_plain] at q1 q2 q3 q4
  exact ⟨⟨q0, q1, q2, q3, q4⟩, hok⟩
end Go.Proofs.Ytbgbmimgkhchhaa
