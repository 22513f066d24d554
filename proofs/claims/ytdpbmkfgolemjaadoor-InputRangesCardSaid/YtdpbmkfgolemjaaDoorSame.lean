/-
  Contract of the document's side: Same, of two rows of the same words.
-/
import Derived.Test.YtdpbmkfgolemjaaDoorLows
import Derived.Test.YtdpbmkfgolemjaaDoorQuots
import Derived.Deep.QuietTactic
import Derived.Deep.DeepCutAuto
import Derived.BigQuiet
set_option linter.unusedVariables false
set_option linter.unusedSimpArgs false
set_option linter.deprecated false
namespace Go.Proofs.YtdpbmkfgolemjaaDoor
open Go.RowKit

/-- the words of a slice, in memory -/
def TokCells (w : World) (ad : Option Addr) (ts : List (Nat × ByteArray)) : Prop :=
  ∀ i (h : i < ts.length), ∃ g o, ad = some ⟨g, o, none⟩ ∧ w.cell? ⟨g, o + i * 2, none⟩ = some (.int .i64 ((ts[i].1 : Nat) : Int)) ∧ w.cell? ⟨g, o + i * 2 + 1, none⟩ = some (.string ts[i].2)
theorem TokCells.below {w w' : World} {ad : Option Addr} {ts : List (Nat × ByteArray)} (h : TokCells w ad ts) (hb : Below w.heap.size w w') : TokCells w' ad ts := by
  intro i hi
  obtain ⟨g, o, e, h1, h2⟩ := h i hi
  exact ⟨g, o, e, (hb.cell (cell_lt h1)).trans h1, (hb.cell (cell_lt h2)).trans h2⟩

set_option maxRecDepth 100000 in
theorem eqTok (x : Int) (s : ByteArray) (w : World) : (Op.equalIn 10000 51 (.agg #[.int .i64 x, .string s]) (.agg #[.int .i64 x, .string s])).run Tryd.prog w = .ok true w := by
  have hS : Tryd.prog.underlying 51 = some (.struct (Tryd.prog.fieldsOf 51)) := by kernel_rfl
  have hp : Tryd.prog.stoodInHeld 51 = false := by kernel_rfl
  have u4 := Tryd.underlying3
  have u5 := Tryd.underlying9
  rw [show (10000 : Nat) = 9999 + 1 from rfl, run_equalIn_agg w 9999 51 _ _ hS hp]
  simp only [Program.fieldsOf, Tryd.underlying51]
  go_simp

end Go.Proofs.YtdpbmkfgolemjaaDoor
