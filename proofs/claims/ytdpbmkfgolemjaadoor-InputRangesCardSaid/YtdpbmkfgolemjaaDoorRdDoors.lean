/-
  An input that comes in: opened.
-/
import Derived.Test.YtdpbmkfgolemjaaDoorRdChks
import Derived.Test.YtdpbmkfgolemjaaDoorRows
import Derived.ProofKit
import Derived.OpenShut
import Derived.Deep.Strs
import Derived.Deep.SlicePairs
import Derived.Lib.SmallJoins
import Derived.Carry
import Derived.Test.YtdpbmkfgolemjaaDoorRdLines
import Derived.Test.YtdpbmkfgolemjaaDoorOpOpen
import Derived.Stop.LaidErr
import Derived.Lib.LaidTab
set_option linter.unusedVariables false
set_option linter.unusedSimpArgs false
set_option linter.deprecated false
namespace Go.Proofs.YtdpbmkfgolemjaaDoor
open Go.RowKit Go.ChangeShapes Go.WideShapes Go.ChangeAt Go.Deep

set_option maxRecDepth 100000 in
theorem open_segs5 {H : Type} {enc : TypeId × Value → H} {w : World} {spare : Nat → Bool} {held : Bool} {cs : List Value} {x : DataW H × List MemPlace} {fuel : Nat}
    (hf : DataW.trod enc Tryd.prog w 0 spare held fuel 23 cs = some x) : ∃ l : List (Int × Int), ∃ ad cap, cs = [.slice ad l.length cap] ∧ l.length ≤ cap ∧ PtRow5 w ad l ∧ (ad = none → cap = 0) := by
  rcases open_slice_pairs Tryd.underlying23 Tryd.underlying62 (by kernel_rfl) rfl rfl (by kernel_rfl) (by kernel_rfl) hf with ⟨hcs, -⟩ | ⟨a, len, cap, m, n, V0, V1, D0, D1, P0, P1, hcs, -, hl, hm, hmm, -, hx⟩
  · exact ⟨[], none, 0, hcs, Nat.le_refl _, ptRow_nil5 _ _, fun _ => rfl⟩
  have hlm : len ≤ m := by rw [hmm]; split <;> omega
  have key : ∀ i, i < len → ∃ q : (Int × Int), w.cell? (a.add (i * 2)) = some (.int .i64 q.1) ∧ w.cell? (a.add (i * 2 + 1)) = some (.int .i64 q.2) := by
    intro i hi
    obtain ⟨h1, h2, h3, h4⟩ := hx i (by omega)
    obtain ⟨x, e, -, -⟩ := DataW.trod_int Tryd.underlying3 h3
    obtain ⟨y, e2, -, -⟩ := DataW.trod_int Tryd.underlying3 h4
    simp at e e2
    exact ⟨(x, y), by rw [h1, e], by rw [h2, e2]⟩
  obtain ⟨f, hf'⟩ := choose_lt key
  have hll : ((List.range len).map f).length = len := by simp
  refine ⟨(List.range len).map f, some a, cap, by rw [hll]; exact hcs, by rw [hll]; exact hl, fun i hi => ?_, fun h => (by cases h)⟩
  rw [hll] at hi
  obtain ⟨g, o, sp⟩ := a
  have hsp : sp = none := by simpa [Addr.add] using World.cell?_spot (hf' 0 (by omega)).1
  subst hsp
  have h1 := hf' i hi
  rw [add_plain5, add_plain5] at h1
  have e : pget5 ((List.range len).map f) i = f i := by unfold pget5; simp [List.getD, hi]
  rw [e]
  exact ⟨g, o, rfl, h1.1, by have := h1.2; rw [show o + (i * 2 + 1) = o + i * 2 + 1 by omega] at this; exact this⟩
set_option maxRecDepth 100000 in
theorem open_pts5 {H : Type} {enc : TypeId × Value → H} {w : World} {spare : Nat → Bool} {held : Bool} {cs : List Value} {x : DataW H × List MemPlace} {fuel : Nat}
    (hf : DataW.trod enc Tryd.prog w 0 spare held fuel 22 cs = some x) : ∃ l : List (Int × Int), ∃ ad cap, cs = [.slice ad l.length cap] ∧ l.length ≤ cap ∧ PtRow5 w ad l ∧ (ad = none → cap = 0) := by
  rcases open_slice_pairs Tryd.underlying22 Tryd.underlying43 (by kernel_rfl) rfl rfl (by kernel_rfl) (by kernel_rfl) hf with ⟨hcs, -⟩ | ⟨a, len, cap, m, n, V0, V1, D0, D1, P0, P1, hcs, -, hl, hm, hmm, -, hx⟩
  · exact ⟨[], none, 0, hcs, Nat.le_refl _, ptRow_nil5 _ _, fun _ => rfl⟩
  have hlm : len ≤ m := by rw [hmm]; split <;> omega
  have key : ∀ i, i < len → ∃ q : (Int × Int), w.cell? (a.add (i * 2)) = some (.int .i64 q.1) ∧ w.cell? (a.add (i * 2 + 1)) = some (.int .i64 q.2) := by
    intro i hi
    obtain ⟨h1, h2, h3, h4⟩ := hx i (by omega)
    obtain ⟨x, e, -, -⟩ := DataW.trod_int Tryd.underlying3 h3
    obtain ⟨y, e2, -, -⟩ := DataW.trod_int Tryd.underlying3 h4
    simp at e e2
    exact ⟨(x, y), by rw [h1, e], by rw [h2, e2]⟩
  obtain ⟨f, hf'⟩ := choose_lt key
  have hll : ((List.range len).map f).length = len := by simp
  refine ⟨(List.range len).map f, some a, cap, by rw [hll]; exact hcs, by rw [hll]; exact hl, fun i hi => ?_, fun h => (by cases h)⟩
  rw [hll] at hi
  obtain ⟨g, o, sp⟩ := a
  have hsp : sp = none := by simpa [Addr.add] using World.cell?_spot (hf' 0 (by omega)).1
  subst hsp
  have h1 := hf' i hi
  rw [add_plain5, add_plain5] at h1
  have e : pget5 ((List.range len).map f) i = f i := by unfold pget5; simp [List.getD, hi]
  rw [e]
  exact ⟨g, o, rfl, h1.1, by have := h1.2; rw [show o + (i * 2 + 1) = o + i * 2 + 1 by omega] at this; exact this⟩
theorem array35 {α : Type} {cs : Array α} (h : cs.size = 3) : ∃ c0 c1 c2, cs = #[c0, c1, c2] := by
  obtain ⟨l⟩ := cs
  match l, h with
  | [c0, c1, c2], _ => exact ⟨c0, c1, c2, rfl⟩
set_option maxRecDepth 100000 in
theorem open_poly5 {H : Type} {enc : TypeId × Value → H} {w : World} {r : Reach} {b0 : Nat} {spare : Nat → Bool} {held : Bool} {v : Value} {d : DataW H} {p : List MemPlace}
    (hv : Value.okWide Tryd.prog w r b0 25 v) (h : DataW.Trod enc Tryd.prog w 0 spare held 25 v d p) :
    ∃ (l m k : List (Int × Int)) (al am ak : Option Addr) (cl cm ck : Nat), v = .agg #[.slice al l.length cl, .slice am m.length cm, .slice ak k.length ck] ∧ PtRow5 w al l ∧ PtRow5 w am m ∧ PtRow5 w ak k ∧ l.length ≤ cl ∧ m.length ≤ cm ∧ k.length ≤ ck ∧ (al = none → cl = 0) ∧ (am = none → cm = 0) ∧ (ak = none → ck = 0) := by
  have hs := Tryd.underlying25
  have hC : Tryd.prog.cellsOf 25 = 3 := by kernel_rfl
  obtain ⟨cs, rfl, hsz⟩ := okWide_struct hs hv
  obtain ⟨c0, c1, c2, rfl⟩ := array35 (hsz.trans hC)
  obtain ⟨fuel, hf⟩ := h
  obtain ⟨y0, y1, y2, n, hx, _, h0, h1, h2⟩ := trod_struct3 hs hf
  have k0 : Tryd.prog.cellsOf 22 = 1 := by kernel_rfl
  have k1 : Tryd.prog.cellsOf 23 = 1 := by kernel_rfl
  simp only [Value.cells, k0, k1, List.drop, List.take] at h0 h1 h2
  obtain ⟨l, al, cl, e0, a1, a2, a3⟩ := open_pts5 h0
  obtain ⟨m, am, cm, e1, b1, b2, b3⟩ := open_segs5 h1
  obtain ⟨k, ak, ck, e2, d1, d2, d3⟩ := open_segs5 h2
  simp at e0 e1 e2
  subst e0 e1 e2
  exact ⟨l, m, k, al, am, ak, cl, cm, ck, rfl, a2, b2, d2, a1, b1, d1, a3, b3, d3⟩
end Go.Proofs.YtdpbmkfgolemjaaDoor

/-
  What the rows of the inputs' laws list of the library's tables, and what it gives the walks.
-/
namespace Go.Proofs.YtdpbmkfgolemjaaDoor
open Go.ChangeShapes Go.WideShapes Go.ChangeAt Go.RowKit

abbrev laid5 : List (String × DataW Unit) := [("math/bits.deBruijn32tab", Rows.laid_math_bits_deBruijn32tab), ("math/bits.deBruijn64tab", Rows.laid_math_bits_deBruijn64tab), ("internal/strconv.uint64pow10", Rows.laid_internal_strconv_uint64pow10)]
set_option maxRecDepth 100000 in
theorem door5 (os : Go.Os) (args : Array Value) : laidMetH Tryd.prog laid5 ((World.doorLaid Tryd.prog 400 os).forCall (fun _ _ => 0) ⟨#[], args, []⟩).memory :=
  laidMetH_of_parts3 (fuel := 8) (laidMet_of_run' 8 (by kernel_rfl) (by kernel_rfl)) (by kernel_rfl) (by kernel_rfl)
set_option maxRecDepth 100000 in
theorem tab_of_laid5 {W : World} (h : laidMetH Tryd.prog laid5 W) : Tab5 W := by
  rw [MakeChecks.laidMetH_plain _ _ _ (by kernel_rfl)] at h
  exact Lib.tabIs_of_head (g := 0) (t := 136) (e := 129) (n := 20) (by kernel_rfl) (by kernel_rfl) Tryd.underlying136 Tryd.underlying129 (by kernel_rfl) (by kernel_rfl) h.tail.tail
end Go.Proofs.YtdpbmkfgolemjaaDoor
