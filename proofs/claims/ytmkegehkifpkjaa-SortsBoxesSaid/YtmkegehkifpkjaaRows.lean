/-
  No cell of these rows narrows 'for every input' (looked for: loops, veiled, ifaces, maps, wideKeys, modest, calm, conditions, laid).
  DERIVED. THE GIVEN ROWS OF THIS SEAT. 7 by the template 'for every input the law returns true; each argument reads behind the call as it read before'; 0 by the template 'total and deterministic' (their statements: YtmkegehkifpkjaaTotals.lean).
  GIVEN WITH THE SEED: the statements are not yours to turn. If you find one false, say at which input.
  Laid BY PROGRAM, IN A SANDBOX (cutbox-rows.mjs): the forced cells as the released guide's own fill.sh prints them over the translation ec28192a22bd8428… (all of the seat's roots in one cut). By AI agents, Wed Nov 11 2026. No macro, syntax, notation, axiom, sorry.
-/
import Derived.Test.YtmkegehkifpkjaaChecked
import GoSem.Claim
import GoSem.ClaimJoined
import GoSem.ClaimMapViews
import Derived.JoinedTies
import Derived.KernelRfl
namespace Go.Proofs.Ytmkegehkifpkjaa
/- THE CELL 'sum', in the pinned program and in every row, IS THE sha256 OF THE DUMP (.gsa) THAT YtmkegehkifpkjaaProg.lean LOADS. Nothing in Lean hashes anything: it is a label: what it is worth is what the hold of that sum in a sandbox is worth. -/
noncomputable def Try.pinned : Pinned := { name := "ytmkegehkifpkjaa", sum := "ec28192a22bd842847e35496b5ee29d7c032b2df7e9f15899683985f2bceb9c6", checked := Try.checked }
namespace Rows
def none {H : Type} : Left H := { results := [], args := [] }

/-- 'parquetlaw07.SortsOrders': WHATEVER THE INPUT: true; the input reads as it did. -/
def sortsOrdersSpec : ChangeSpec := { name := "sortsOrders", fn := fun _ => fun
  | [d] => { results := [.lit (.bool true)], args := [d] }
  | _ => none }
def sortsOrdersRow : OpenClaim := { program := "ytmkegehkifpkjaa", sum := "ec28192a22bd842847e35496b5ee29d7c032b2df7e9f15899683985f2bceb9c6", func := "parquet/parquetlaw07.SortsOrders", spec := "sortsOrders", unfollowed := true, recurses := true, apart := false }
def SortsOrdersSaid : Prop := sortsOrdersRow.holds Try.pinned (OpenSpec.ofChange sortsOrdersSpec)

/-- ITS FALSE NEIGHBOUR: 'it returns false'. Refute it at one input. -/
def sortsOrdersWrong : ChangeSpec := { name := "sortsOrders", fn := fun _ => fun
  | [d] => { results := [.lit (.bool false)], args := [d] }
  | _ => none }
def SortsOrdersWrongFalsely : Prop := sortsOrdersRow.holds Try.pinned (OpenSpec.ofChange sortsOrdersWrong)

/-- 'parquetlaw07.SortsTells': WHATEVER THE INPUT: true; the input reads as it did. -/
def sortsTellsSpec : ChangeSpec := { name := "sortsTells", fn := fun _ => fun
  | [d1, d2, d3] => { results := [.lit (.bool true)], args := [d1, d2, d3] }
  | _ => none }
def sortsTellsRow : OpenClaim := { program := "ytmkegehkifpkjaa", sum := "ec28192a22bd842847e35496b5ee29d7c032b2df7e9f15899683985f2bceb9c6", func := "parquet/parquetlaw07.SortsTells", spec := "sortsTells", unfollowed := true, recurses := true, apart := false }
def SortsTellsSaid : Prop := sortsTellsRow.holds Try.pinned (OpenSpec.ofChange sortsTellsSpec)

/-- ITS FALSE NEIGHBOUR: 'it returns false'. Refute it at one input. -/
def sortsTellsWrong : ChangeSpec := { name := "sortsTells", fn := fun _ => fun
  | [d1, d2, d3] => { results := [.lit (.bool false)], args := [d1, d2, d3] }
  | _ => none }
def SortsTellsWrongFalsely : Prop := sortsTellsRow.holds Try.pinned (OpenSpec.ofChange sortsTellsWrong)

/-- 'parquetlaw07.SortsMerges': WHATEVER THE INPUT: true; the input reads as it did. -/
def sortsMergesSpec : ChangeSpec := { name := "sortsMerges", fn := fun _ => fun
  | [d1, d2] => { results := [.lit (.bool true)], args := [d1, d2] }
  | _ => none }
def sortsMergesRow : OpenClaim := { program := "ytmkegehkifpkjaa", sum := "ec28192a22bd842847e35496b5ee29d7c032b2df7e9f15899683985f2bceb9c6", func := "parquet/parquetlaw07.SortsMerges", spec := "sortsMerges", unfollowed := true, recurses := true, apart := false }
def SortsMergesSaid : Prop := sortsMergesRow.holds Try.pinned (OpenSpec.ofChange sortsMergesSpec)

/-- ITS FALSE NEIGHBOUR: 'it returns false'. Refute it at one input. -/
def sortsMergesWrong : ChangeSpec := { name := "sortsMerges", fn := fun _ => fun
  | [d1, d2] => { results := [.lit (.bool false)], args := [d1, d2] }
  | _ => none }
def SortsMergesWrongFalsely : Prop := sortsMergesRow.holds Try.pinned (OpenSpec.ofChange sortsMergesWrong)

/-- 'parquetlaw07.SortsKeeps': WHATEVER THE INPUT: true; the input reads as it did. -/
def sortsKeepsSpec : ChangeSpec := { name := "sortsKeeps", fn := fun _ => fun
  | [d1, d2, d3] => { results := [.lit (.bool true)], args := [d1, d2, d3] }
  | _ => none }
def sortsKeepsRow : OpenClaim := { program := "ytmkegehkifpkjaa", sum := "ec28192a22bd842847e35496b5ee29d7c032b2df7e9f15899683985f2bceb9c6", func := "parquet/parquetlaw07.SortsKeeps", spec := "sortsKeeps", unfollowed := true, recurses := true, apart := false }
def SortsKeepsSaid : Prop := sortsKeepsRow.holds Try.pinned (OpenSpec.ofChange sortsKeepsSpec)

/-- ITS FALSE NEIGHBOUR: 'it returns false'. Refute it at one input. -/
def sortsKeepsWrong : ChangeSpec := { name := "sortsKeeps", fn := fun _ => fun
  | [d1, d2, d3] => { results := [.lit (.bool false)], args := [d1, d2, d3] }
  | _ => none }
def SortsKeepsWrongFalsely : Prop := sortsKeepsRow.holds Try.pinned (OpenSpec.ofChange sortsKeepsWrong)

/-- 'parquetlaw07.SortsStands': WHATEVER THE INPUT: true; the input reads as it did. -/
def sortsStandsSpec : ChangeSpec := { name := "sortsStands", fn := fun _ => fun
  | [d] => { results := [.lit (.bool true)], args := [d] }
  | _ => none }
def sortsStandsRow : OpenClaim := { program := "ytmkegehkifpkjaa", sum := "ec28192a22bd842847e35496b5ee29d7c032b2df7e9f15899683985f2bceb9c6", func := "parquet/parquetlaw07.SortsStands", spec := "sortsStands", unfollowed := true, recurses := true, apart := false }
def SortsStandsSaid : Prop := sortsStandsRow.holds Try.pinned (OpenSpec.ofChange sortsStandsSpec)

/-- ITS FALSE NEIGHBOUR: 'it returns false'. Refute it at one input. -/
def sortsStandsWrong : ChangeSpec := { name := "sortsStands", fn := fun _ => fun
  | [d] => { results := [.lit (.bool false)], args := [d] }
  | _ => none }
def SortsStandsWrongFalsely : Prop := sortsStandsRow.holds Try.pinned (OpenSpec.ofChange sortsStandsWrong)

/-- 'parquetlaw07.SortsBoxes': WHATEVER THE INPUT: true; the input reads as it did. -/
def sortsBoxesSpec : ChangeSpec := { name := "sortsBoxes", fn := fun _ => fun
  | [d1, d2] => { results := [.lit (.bool true)], args := [d1, d2] }
  | _ => none }
def sortsBoxesRow : OpenClaim := { program := "ytmkegehkifpkjaa", sum := "ec28192a22bd842847e35496b5ee29d7c032b2df7e9f15899683985f2bceb9c6", func := "parquet/parquetlaw07.SortsBoxes", spec := "sortsBoxes", unfollowed := true, recurses := true, apart := false }
def SortsBoxesSaid : Prop := sortsBoxesRow.holds Try.pinned (OpenSpec.ofChange sortsBoxesSpec)

/-- ITS FALSE NEIGHBOUR: 'it returns false'. Refute it at one input. -/
def sortsBoxesWrong : ChangeSpec := { name := "sortsBoxes", fn := fun _ => fun
  | [d1, d2] => { results := [.lit (.bool false)], args := [d1, d2] }
  | _ => none }
def SortsBoxesWrongFalsely : Prop := sortsBoxesRow.holds Try.pinned (OpenSpec.ofChange sortsBoxesWrong)

/-- 'parquetlaw07.SortsJoins': WHATEVER THE INPUT: true; the input reads as it did. -/
def sortsJoinsSpec : ChangeSpec := { name := "sortsJoins", fn := fun _ => fun
  | [d1, d2] => { results := [.lit (.bool true)], args := [d1, d2] }
  | _ => none }
def sortsJoinsRow : OpenClaim := { program := "ytmkegehkifpkjaa", sum := "ec28192a22bd842847e35496b5ee29d7c032b2df7e9f15899683985f2bceb9c6", func := "parquet/parquetlaw07.SortsJoins", spec := "sortsJoins", unfollowed := true, recurses := true, apart := false }
def SortsJoinsSaid : Prop := sortsJoinsRow.holds Try.pinned (OpenSpec.ofChange sortsJoinsSpec)

/-- ITS FALSE NEIGHBOUR: 'it returns false'. Refute it at one input. -/
def sortsJoinsWrong : ChangeSpec := { name := "sortsJoins", fn := fun _ => fun
  | [d1, d2] => { results := [.lit (.bool false)], args := [d1, d2] }
  | _ => none }
def SortsJoinsWrongFalsely : Prop := sortsJoinsRow.holds Try.pinned (OpenSpec.ofChange sortsJoinsWrong)

/- THE SECOND FORM. 'bulk': how many values and letters a reading holds, each counted each time it is reached (what is shared counts as often as it is met; a slice's spare places count too). A statement '..UptoSaid' is the law's where the arguments, and the package variables that the reading takes, are together of bulk at most 1048576: NARROWER than '..Said'. Prove '..Said' where nothing that the law and all that it calls make is longer than what came in: it says more and counts as full. Else prove '..UptoSaid'. A law counts once. -/
mutual
def uptoBulk {H : Type} : DataW H → Nat
  | .lit (.string bytes) => bytes.length + 1
  | .lit _ => 1
  | .nil => 1
  | .ptr d => uptoBulk d + 1
  | .slice elems spare => uptoBulkAll elems + uptoBulkAll spare + 1
  | .agg parts => uptoBulkAll parts + 1
  | .iface _ d => uptoBulk d + 1
  | .map entries => uptoBulkEntries entries + 1
  | .held _ => 1
def uptoBulkAll {H : Type} : List (DataW H) → Nat
  | [] => 0
  | d :: r => uptoBulk d + uptoBulkAll r
def uptoBulkEntries {H : Type} : List (Lit × DataW H) → Nat
  | [] => 0
  | x :: r => uptoBulkEntry x + uptoBulkEntries r
def uptoBulkEntry {H : Type} : Lit × DataW H → Nat
  | (.string bytes, d) => bytes.length + uptoBulk d + 1
  | (_, d) => uptoBulk d + 1
 end
def uptoSmall : (H : Type) → List (DataW H) → Bool := fun _ ds => decide (uptoBulkAll ds ≤ 1048576)
def OpenSpec.upto (s : _root_.Go.ChangeSpec) : _root_.Go.OpenSpec := { _root_.Go.OpenSpec.ofChange s with cond := some uptoSmall }

/-- 'parquetlaw07.SortsOrders', WHERE WHAT IT READS IS OF BULK AT MOST 1048576: true; the input reads as it did. -/
def sortsOrdersUptoRow : OpenClaim := { program := "ytmkegehkifpkjaa", sum := "ec28192a22bd842847e35496b5ee29d7c032b2df7e9f15899683985f2bceb9c6", func := "parquet/parquetlaw07.SortsOrders", spec := "sortsOrders", unfollowed := true, recurses := true, apart := false, narrowed := true }
def SortsOrdersUptoSaid : Prop := sortsOrdersUptoRow.holds Try.pinned (OpenSpec.upto sortsOrdersSpec)

/-- 'parquetlaw07.SortsTells', WHERE WHAT IT READS IS OF BULK AT MOST 1048576: true; the input reads as it did. -/
def sortsTellsUptoRow : OpenClaim := { program := "ytmkegehkifpkjaa", sum := "ec28192a22bd842847e35496b5ee29d7c032b2df7e9f15899683985f2bceb9c6", func := "parquet/parquetlaw07.SortsTells", spec := "sortsTells", unfollowed := true, recurses := true, apart := false, narrowed := true }
def SortsTellsUptoSaid : Prop := sortsTellsUptoRow.holds Try.pinned (OpenSpec.upto sortsTellsSpec)

/-- 'parquetlaw07.SortsMerges', WHERE WHAT IT READS IS OF BULK AT MOST 1048576: true; the input reads as it did. -/
def sortsMergesUptoRow : OpenClaim := { program := "ytmkegehkifpkjaa", sum := "ec28192a22bd842847e35496b5ee29d7c032b2df7e9f15899683985f2bceb9c6", func := "parquet/parquetlaw07.SortsMerges", spec := "sortsMerges", unfollowed := true, recurses := true, apart := false, narrowed := true }
def SortsMergesUptoSaid : Prop := sortsMergesUptoRow.holds Try.pinned (OpenSpec.upto sortsMergesSpec)

/-- 'parquetlaw07.SortsKeeps', WHERE WHAT IT READS IS OF BULK AT MOST 1048576: true; the input reads as it did. -/
def sortsKeepsUptoRow : OpenClaim := { program := "ytmkegehkifpkjaa", sum := "ec28192a22bd842847e35496b5ee29d7c032b2df7e9f15899683985f2bceb9c6", func := "parquet/parquetlaw07.SortsKeeps", spec := "sortsKeeps", unfollowed := true, recurses := true, apart := false, narrowed := true }
def SortsKeepsUptoSaid : Prop := sortsKeepsUptoRow.holds Try.pinned (OpenSpec.upto sortsKeepsSpec)

/-- 'parquetlaw07.SortsStands', WHERE WHAT IT READS IS OF BULK AT MOST 1048576: true; the input reads as it did. -/
def sortsStandsUptoRow : OpenClaim := { program := "ytmkegehkifpkjaa", sum := "ec28192a22bd842847e35496b5ee29d7c032b2df7e9f15899683985f2bceb9c6", func := "parquet/parquetlaw07.SortsStands", spec := "sortsStands", unfollowed := true, recurses := true, apart := false, narrowed := true }
def SortsStandsUptoSaid : Prop := sortsStandsUptoRow.holds Try.pinned (OpenSpec.upto sortsStandsSpec)

/-- 'parquetlaw07.SortsBoxes', WHERE WHAT IT READS IS OF BULK AT MOST 1048576: true; the input reads as it did. -/
def sortsBoxesUptoRow : OpenClaim := { program := "ytmkegehkifpkjaa", sum := "ec28192a22bd842847e35496b5ee29d7c032b2df7e9f15899683985f2bceb9c6", func := "parquet/parquetlaw07.SortsBoxes", spec := "sortsBoxes", unfollowed := true, recurses := true, apart := false, narrowed := true }
def SortsBoxesUptoSaid : Prop := sortsBoxesUptoRow.holds Try.pinned (OpenSpec.upto sortsBoxesSpec)

/-- 'parquetlaw07.SortsJoins', WHERE WHAT IT READS IS OF BULK AT MOST 1048576: true; the input reads as it did. -/
def sortsJoinsUptoRow : OpenClaim := { program := "ytmkegehkifpkjaa", sum := "ec28192a22bd842847e35496b5ee29d7c032b2df7e9f15899683985f2bceb9c6", func := "parquet/parquetlaw07.SortsJoins", spec := "sortsJoins", unfollowed := true, recurses := true, apart := false, narrowed := true }
def SortsJoinsUptoSaid : Prop := sortsJoinsUptoRow.holds Try.pinned (OpenSpec.upto sortsJoinsSpec)

end Rows
end Go.Proofs.Ytmkegehkifpkjaa
