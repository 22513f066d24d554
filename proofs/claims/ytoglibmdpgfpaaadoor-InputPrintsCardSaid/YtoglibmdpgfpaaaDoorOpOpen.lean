/-
  What the rows of the options' laws list of the words' variable, and what it gives the walks.
-/
import Derived.Test.YtoglibmdpgfpaaaDoorOpRds
import Derived.Test.YtoglibmdpgfpaaaDoorRows
import Derived.ProofKit
import Derived.LaidMore
import Derived.OpenShut
import Derived.Stop.Joined
import Derived.Test.YtoglibmdpgfpaaaDoorRefAll
import Derived.Carry
import Derived.Deep.Slices
import Derived.Deep.Strs
set_option linter.unusedVariables false
set_option linter.unusedSimpArgs false
set_option linter.deprecated false
namespace Go.Proofs.YtoglibmdpgfpaaaDoor
open Go.ChangeShapes Go.WideShapes Go.ChangeAt Go.RowKit

theorem own6 : ownKnob Tryd.prog.godebug = none := by kernel_rfl
theorem gWords6 : Tryd.prog.globalNamed "parquet/options.modeWords" = some 0 := by kernel_rfl
theorem tWords6 : (Tryd.prog.globals[0]?).map (·.type) = some 118 := by kernel_rfl
abbrev laid6 : List (String × DataW Unit) := [("parquet/options.modeWords", Rows.laid_parquet_options_modeWords)]
theorem door6 (os : Go.Os) (args : Array Value) : laidMetH Tryd.prog laid6 ((World.doorLaid Tryd.prog 400 os).forCall (fun _ _ => 0) ⟨#[], args, []⟩).memory :=
  laidMetH_of_parts3 (fuel := 8) (laidMet_of_run' 8 (by kernel_rfl) (by kernel_rfl)) (by kernel_rfl) (by kernel_rfl)
set_option maxRecDepth 100000 in
theorem words_of_laid6 {W : World} (h : laidMetH Tryd.prog laid6 W) : Words6 W := by
  rw [MakeChecks.laidMetH_plain _ _ _ (by kernel_rfl)] at h
  obtain ⟨ps, ⟨g0, t0, cs0, f0, p0, q0, hg0, ht0, hv0, hd0, -, -⟩, -, -⟩ := h
  obtain rfl := Option.some.inj (gWords6.symm.trans hg0)
  obtain rfl := Option.some.inj (tWords6.symm.trans ht0)
  obtain ⟨xs, m1, rfl, hx1, hlen, hn3, hel⟩ := DataW.trod_array Tryd.underlying118 hd0
  have c9 : Tryd.prog.cellsOf 9 = 1 := by kernel_rfl
  have c118 : Tryd.prog.cellsOf 118 = 4 := by kernel_rfl
  rw [c118] at hlen
  simp only [Prod.mk.injEq, Rows.laid_parquet_options_modeWords, DataW.agg.injEq] at hx1
  obtain ⟨l⟩ := cs0
  match xs, hn3, l, hlen with
  | [x0, x1, x2, x3], _, [v0, v1, v2, v3], _ =>
    simp only [List.map_cons, List.map_nil, List.cons.injEq] at hx1
    have e0 := hel 0 (by decide)
    have e1 := hel 1 (by decide)
    have e2 := hel 2 (by decide)
    have e3 := hel 3 (by decide)
    rw [c9] at e0 e1 e2 e3
    obtain ⟨s0, k0, y0, -⟩ := DataW.trod_string Tryd.underlying9 (show DataW.trod _ Tryd.prog W 0 _ _ m1 9 _ = some x0 from e0)
    obtain ⟨s1, k1, y1, -⟩ := DataW.trod_string Tryd.underlying9 (show DataW.trod _ Tryd.prog W 0 _ _ m1 9 _ = some x1 from e1)
    obtain ⟨s2, k2, y2, -⟩ := DataW.trod_string Tryd.underlying9 (show DataW.trod _ Tryd.prog W 0 _ _ m1 9 _ = some x2 from e2)
    obtain ⟨s3, k3, y3, -⟩ := DataW.trod_string Tryd.underlying9 (show DataW.trod _ Tryd.prog W 0 _ _ m1 9 _ = some x3 from e3)
    simp at k0 k1 k2 k3
    subst k0 k1 k2 k3 y0 y1 y2 y3
    have cell := fun j => World.var?_cell hg0 hv0 j
    have c0 := cell 0
    have c1 := cell 1
    have c2 := cell 2
    have c3 := cell 3
    have key : ∀ (s t : ByteArray), t.data.toList = s.data.toList → t = s := fun s t h => ByteArray.ext (Array.toList_inj.1 h)
    simp at hx1
    obtain ⟨⟨z0, z1, z2, z3⟩, -⟩ := hx1
    obtain rfl : s0 = ⟨#[]⟩ := ByteArray.ext z0
    obtain rfl := key ⟨#[116, 114, 105]⟩ s1 z1.symm
    obtain rfl := key ⟨#[113, 117, 97, 100]⟩ s2 z2.symm
    obtain rfl := key ⟨#[97, 108, 108]⟩ s3 z3.symm
    exact ⟨c0, c1, c2, c3⟩
end Go.Proofs.YtoglibmdpgfpaaaDoor

/-
  A []byte that comes in: opened, as a text.
-/
namespace Go.Proofs.YtoglibmdpgfpaaaDoor
open Go.RowKit Go.ChangeShapes Go.WideShapes Go.ChangeAt Go.Deep

set_option maxRecDepth 100000 in
theorem open_bytes {H : Type} {enc : TypeId × Value → H} {w : World} {r : Reach} {b0 : Nat} {spare : Nat → Bool} {held : Bool} {v : Value} {d : DataW H} {p : List MemPlace}
    (hv : Value.okWide Tryd.prog w r b0 37 v) (h : DataW.Trod enc Tryd.prog w 0 spare held 37 v d p) :
    ∃ (ad : Option Addr) (cp : Nat) (s : ByteArray), v = .slice ad s.size cp ∧ s.size ≤ cp ∧ s.size ≤ maxLen ∧ BytesIn w ad s := by
  obtain ⟨a0, len0, cap0, rfl⟩ := okWide_slice Tryd.underlying37 hv
  obtain ⟨fuel, hf⟩ := h
  have hC : Tryd.prog.cellsOf 5 = 1 := by kernel_rfl
  rcases open_slice1 Tryd.underlying37 hC hf with ⟨hcs, -⟩ | ⟨a, len, cap, m, n, V, D, Pl, hcs, -, hl, hm, hmm, -, hx⟩
  · simp [Value.cells] at hcs
    obtain ⟨rfl, rfl, rfl⟩ := hcs
    exact ⟨none, 0, ByteArray.empty, rfl, by simp, by simp, fun i hi => absurd hi (by simp)⟩
  simp [Value.cells] at hcs
  obtain ⟨rfl, rfl, rfl⟩ := hcs
  have hlm : len0 ≤ m := by rw [hmm]; split <;> omega
  have key : ∀ i, i < len0 → ∃ z : Int, w.cell? (a.add i) = some (.int .u8 z) ∧ 0 ≤ z ∧ z < 256 := by
    intro i hi
    obtain ⟨h1, h2⟩ := hx i (by omega)
    obtain ⟨z, e, -, wz⟩ := DataW.trod_int Tryd.underlying5 h2
    simp at e
    have := bounds_u8 wz
    exact ⟨z, by rw [h1, e], this.1, by omega⟩
  obtain ⟨f, hf'⟩ := choose_lt key
  have hz : ∀ d ∈ (List.range len0).map f, 0 ≤ d ∧ d < 256 := by
    intro d hd
    obtain ⟨i, hi, rfl⟩ := List.mem_map.1 hd
    exact (hf' i (by simpa using hi)).2
  have hsz : (strOfNums ((List.range len0).map f)).size = len0 := by rw [strOfNums_size]; simp
  refine ⟨some a, cap0, strOfNums ((List.range len0).map f), by rw [hsz], by rw [hsz]; exact hl, by rw [hsz]; omega, fun i hi => ?_⟩
  have hi' : i < len0 := by rw [← hsz]; exact hi
  obtain ⟨g, o, sp⟩ := a
  have hsp : sp = none := by simpa [Addr.add] using World.cell?_spot (hf' 0 (by omega)).1
  subst hsp
  refine ⟨g, o, rfl, ?_⟩
  have h1 := (hf' i hi').1
  rw [add_plain] at h1
  rw [h1]
  congr 2
  have h2 := nums_get _ i hi
  rw [← h2, nums_str _ hz]
  simp [List.getD, hi']
end Go.Proofs.YtoglibmdpgfpaaaDoor

/-
  Options that come in: opened.
-/
namespace Go.Proofs.YtoglibmdpgfpaaaDoor
open Go.RowKit Go.ChangeShapes Go.WideShapes Go.ChangeAt Go.Deep

theorem array3_6 {α : Type} {cs : Array α} (h : cs.size = 3) : ∃ c0 c1 c2, cs = #[c0, c1, c2] := by
  obtain ⟨l⟩ := cs
  match l, h with
  | [a, b, c], _ => exact ⟨a, b, c, rfl⟩
set_option maxRecDepth 100000 in
theorem open_opts {H : Type} {enc : TypeId × Value → H} {w : World} {base : Nat} {r : Reach} {b0 : Nat} {spare : Nat → Bool} {held : Bool} {v : Value} {d : DataW H} {p : List MemPlace}
    (hv : Value.okWide Tryd.prog w r b0 62 v) (h : DataW.Trod enc Tryd.prog w base spare held 62 v d p) :
    ∃ (m b : Int) (f : Bool), v = .agg #[.int .i64 m, .int .i64 b, .bool f] := by
  have hs := Tryd.underlying62
  have hC : Tryd.prog.cellsOf 62 = 3 := by kernel_rfl
  obtain ⟨cs, rfl, hsz⟩ := okWide_struct hs hv
  obtain ⟨c0, c1, c2, rfl⟩ := array3_6 (hsz.trans hC)
  obtain ⟨fuel, hf⟩ := h
  obtain ⟨y0, y1, y2, n, hx, _, h0, h1, h2⟩ := trod_struct3 hs hf
  have k3 : Tryd.prog.cellsOf 3 = 1 := by kernel_rfl
  have k4 : Tryd.prog.cellsOf 4 = 1 := by kernel_rfl
  simp only [Value.cells, k3, k4, List.drop, List.take] at h0 h1 h2
  obtain ⟨x, q0, -, -⟩ := DataW.trod_int Tryd.underlying3 h0
  obtain ⟨y, q1, -, -⟩ := DataW.trod_int Tryd.underlying3 h1
  obtain ⟨z, q2, -⟩ := DataW.trod_bool Tryd.underlying4 h2
  simp at q0 q1 q2
  subst q0 q1 q2
  exact ⟨x, y, z, rfl⟩
theorem u8_nat6 {z : Int} (h : (Lit.int .u8 z).wf = true) : ∃ m : Nat, m < 256 ∧ z = (m : Int) := by
  have := bounds_u8 h
  exact ⟨z.toNat, by omega, by omega⟩
end Go.Proofs.YtoglibmdpgfpaaaDoor
