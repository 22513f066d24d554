/-
  No knob of the environment is read.
-/
import Derived.Test.YtdpbmkfgolemjaaDoorPlain
import Derived.Test.YtdpbmkfgolemjaaDoorRows
import Derived.ProofKit
import Derived.LaidMore
import Derived.OpenShut
import Derived.Stop.Joined
import Derived.Test.YtdpbmkfgolemjaaDoorRefAll
import Derived.Carry
import Derived.Deep.Slices
import Derived.Deep.Strs
set_option linter.unusedVariables false
set_option linter.unusedSimpArgs false
set_option linter.deprecated false
namespace Go.Proofs.YtdpbmkfgolemjaaDoor
open Go.ChangeShapes Go.WideShapes Go.ChangeAt Go.RowKit

theorem own6 : ownKnob Tryd.prog.godebug = none := by kernel_rfl
end Go.Proofs.YtdpbmkfgolemjaaDoor

/-
  A []byte that comes in: opened, as a text.
-/
namespace Go.Proofs.YtdpbmkfgolemjaaDoor
open Go.RowKit Go.ChangeShapes Go.WideShapes Go.ChangeAt Go.Deep

set_option maxRecDepth 100000 in
theorem open_bytes {H : Type} {enc : TypeId × Value → H} {w : World} {r : Reach} {b0 : Nat} {spare : Nat → Bool} {held : Bool} {v : Value} {d : DataW H} {p : List MemPlace}
    (hv : Value.okWide Tryd.prog w r b0 37 v) (h : DataW.Trod enc Tryd.prog w 0 spare held 37 v d p) :
    ∃ (ad : Option Addr) (cp : Nat) (s : ByteArray), v = .slice ad s.size cp ∧ s.size ≤ cp ∧ s.size ≤ maxLen ∧ BytesIn w ad s := by
  obtain ⟨a0, len0, cap0, rfl⟩ := okWide_slice Tryd.underlying37 hv
  obtain ⟨fuel, hf⟩ := h
  have hC : Tryd.prog.cellsOf 5 = 1 := by kernel_rfl
  rcases open_slice1 Tryd.underlying37 hC hf with ⟨hcs, -⟩ | ⟨a, len, cap, m, n, V, D, Pl, hcs, -, hl, hm, hmm, -, hx⟩
  · simp [Value.cells] at hcs
    obtain ⟨rfl, rfl, rfl⟩ := hcs
    exact ⟨none, 0, ByteArray.empty, rfl, by simp, by simp, fun i hi => absurd hi (by simp)⟩
  simp [Value.cells] at hcs
  obtain ⟨rfl, rfl, rfl⟩ := hcs
  have hlm : len0 ≤ m := by rw [hmm]; split <;> omega
  have key : ∀ i, i < len0 → ∃ z : Int, w.cell? (a.add i) = some (.int .u8 z) ∧ 0 ≤ z ∧ z < 256 := by
    intro i hi
    obtain ⟨h1, h2⟩ := hx i (by omega)
    obtain ⟨z, e, -, wz⟩ := DataW.trod_int Tryd.underlying5 h2
    simp at e
    have := bounds_u8 wz
    exact ⟨z, by rw [h1, e], this.1, by omega⟩
  obtain ⟨f, hf'⟩ := choose_lt key
  have hz : ∀ d ∈ (List.range len0).map f, 0 ≤ d ∧ d < 256 := by
    intro d hd
    obtain ⟨i, hi, rfl⟩ := List.mem_map.1 hd
    exact (hf' i (by simpa using hi)).2
  have hsz : (strOfNums ((List.range len0).map f)).size = len0 := by rw [strOfNums_size]; simp
  refine ⟨some a, cap0, strOfNums ((List.range len0).map f), by rw [hsz], by rw [hsz]; exact hl, by rw [hsz]; omega, fun i hi => ?_⟩
  have hi' : i < len0 := by rw [← hsz]; exact hi
  obtain ⟨g, o, sp⟩ := a
  have hsp : sp = none := by simpa [Addr.add] using World.cell?_spot (hf' 0 (by omega)).1
  subst hsp
  refine ⟨g, o, rfl, ?_⟩
  have h1 := (hf' i hi').1
  rw [add_plain] at h1
  rw [h1]
  congr 2
  have h2 := nums_get _ i hi
  rw [← h2, nums_str _ hz]
  simp [List.getD, hi']
end Go.Proofs.YtdpbmkfgolemjaaDoor

/-
  Options that come in: opened.
-/
namespace Go.Proofs.YtdpbmkfgolemjaaDoor
open Go.RowKit Go.ChangeShapes Go.WideShapes Go.ChangeAt Go.Deep

theorem array3_6 {α : Type} {cs : Array α} (h : cs.size = 3) : ∃ c0 c1 c2, cs = #[c0, c1, c2] := by
  obtain ⟨l⟩ := cs
  match l, h with
  | [a, b, c], _ => exact ⟨a, b, c, rfl⟩
theorem u8_nat6 {z : Int} (h : (Lit.int .u8 z).wf = true) : ∃ m : Nat, m < 256 ∧ z = (m : Int) := by
  have := bounds_u8 h
  exact ⟨z.toNat, by omega, by omega⟩
end Go.Proofs.YtdpbmkfgolemjaaDoor
