/-
  No cell of these rows narrows 'for every input' (looked for: loops, veiled, ifaces, maps, wideKeys, modest, calm, conditions, laid).
  DERIVED. THE GIVEN ROWS OF THIS SEAT. 9 by the template 'for every input the law returns true; each argument reads behind the call as it read before'; 0 by the template 'total and deterministic' (their statements: YtkidphekfnmhhaaTotals.lean).
  GIVEN WITH THE SEED: the statements are not yours to turn. If you find one false, say at which input.
  Laid BY PROGRAM, IN A SANDBOX (cutbox-rows.mjs): the forced cells as the released guide's own fill.sh prints them over the translation 77d1f006e90a4b2c… (all of the seat's roots in one cut). By AI agents, Wed Nov 11 2026. No macro, syntax, notation, axiom, sorry.
-/
import Derived.Test.YtkidphekfnmhhaaChecked
import GoSem.Claim
import GoSem.ClaimJoined
import GoSem.ClaimMapViews
import Derived.JoinedTies
import Derived.KernelRfl
namespace Go.Proofs.Ytkidphekfnmhhaa
/- THE CELL 'sum', in the pinned program and in every row, IS THE sha256 OF THE DUMP (.gsa) THAT YtkidphekfnmhhaaProg.lean LOADS. Nothing in Lean hashes anything: it is a label: what it is worth is what the hold of that sum in a sandbox is worth. -/
noncomputable def Try.pinned : Pinned := { name := "ytkidphekfnmhhaa", sum := "77d1f006e90a4b2c856a42d4039def2eaf07f8638909141c00e281530f84a19b", checked := Try.checked }
namespace Rows
def none {H : Type} : Left H := { results := [], args := [] }

/-- 'parquetlaw09.WithinTells': WHATEVER THE INPUT: true; the input reads as it did. -/
def withinTellsSpec : ChangeSpec := { name := "withinTells", fn := fun _ => fun
  | [d1, d2, d3] => { results := [.lit (.bool true)], args := [d1, d2, d3] }
  | _ => none }
def withinTellsRow : OpenClaim := { program := "ytkidphekfnmhhaa", sum := "77d1f006e90a4b2c856a42d4039def2eaf07f8638909141c00e281530f84a19b", func := "parquet/parquetlaw09.WithinTells", spec := "withinTells", inPlace := ["math/bits.Sub64", "math/bits.Add64"], unfollowed := true, recurses := true, plainKeys := false, apart := false }
def WithinTellsSaid : Prop := withinTellsRow.holds Try.pinned (OpenSpec.ofChange withinTellsSpec)

/-- ITS FALSE NEIGHBOUR: 'it returns false'. Refute it at one input. -/
def withinTellsWrong : ChangeSpec := { name := "withinTells", fn := fun _ => fun
  | [d1, d2, d3] => { results := [.lit (.bool false)], args := [d1, d2, d3] }
  | _ => none }
def WithinTellsWrongFalsely : Prop := withinTellsRow.holds Try.pinned (OpenSpec.ofChange withinTellsWrong)

/-- 'parquetlaw09.WithinMiddles': WHATEVER THE INPUT: true; the input reads as it did. -/
def withinMiddlesSpec : ChangeSpec := { name := "withinMiddles", fn := fun _ => fun
  | [d1, d2, d3, d4, d5] => { results := [.lit (.bool true)], args := [d1, d2, d3, d4, d5] }
  | _ => none }
def withinMiddlesRow : OpenClaim := { program := "ytkidphekfnmhhaa", sum := "77d1f006e90a4b2c856a42d4039def2eaf07f8638909141c00e281530f84a19b", func := "parquet/parquetlaw09.WithinMiddles", spec := "withinMiddles", inPlace := ["math/bits.Sub64", "math/bits.Add64"], unfollowed := true, recurses := true, plainKeys := false, apart := false }
def WithinMiddlesSaid : Prop := withinMiddlesRow.holds Try.pinned (OpenSpec.ofChange withinMiddlesSpec)

/-- ITS FALSE NEIGHBOUR: 'it returns false'. Refute it at one input. -/
def withinMiddlesWrong : ChangeSpec := { name := "withinMiddles", fn := fun _ => fun
  | [d1, d2, d3, d4, d5] => { results := [.lit (.bool false)], args := [d1, d2, d3, d4, d5] }
  | _ => none }
def WithinMiddlesWrongFalsely : Prop := withinMiddlesRow.holds Try.pinned (OpenSpec.ofChange withinMiddlesWrong)

/-- 'parquetlaw09.WithinDeep': WHATEVER THE INPUT: true; the input reads as it did. -/
def withinDeepSpec : ChangeSpec := { name := "withinDeep", fn := fun _ => fun
  | [d1, d2] => { results := [.lit (.bool true)], args := [d1, d2] }
  | _ => none }
def withinDeepRow : OpenClaim := { program := "ytkidphekfnmhhaa", sum := "77d1f006e90a4b2c856a42d4039def2eaf07f8638909141c00e281530f84a19b", func := "parquet/parquetlaw09.WithinDeep", spec := "withinDeep", inPlace := ["math/bits.Sub64", "math/bits.Add64"], unfollowed := true, recurses := true, plainKeys := false, apart := false }
def WithinDeepSaid : Prop := withinDeepRow.holds Try.pinned (OpenSpec.ofChange withinDeepSpec)

/-- ITS FALSE NEIGHBOUR: 'it returns false'. Refute it at one input. -/
def withinDeepWrong : ChangeSpec := { name := "withinDeep", fn := fun _ => fun
  | [d1, d2] => { results := [.lit (.bool false)], args := [d1, d2] }
  | _ => none }
def WithinDeepWrongFalsely : Prop := withinDeepRow.holds Try.pinned (OpenSpec.ofChange withinDeepWrong)

/-- 'parquetlaw09.WithinWays': WHATEVER THE INPUT: true; the input reads as it did. -/
def withinWaysSpec : ChangeSpec := { name := "withinWays", fn := fun _ => fun
  | [d1, d2] => { results := [.lit (.bool true)], args := [d1, d2] }
  | _ => none }
def withinWaysRow : OpenClaim := { program := "ytkidphekfnmhhaa", sum := "77d1f006e90a4b2c856a42d4039def2eaf07f8638909141c00e281530f84a19b", func := "parquet/parquetlaw09.WithinWays", spec := "withinWays", inPlace := ["math/bits.Sub64", "math/bits.Add64"], unfollowed := true, recurses := true, plainKeys := false, apart := false }
def WithinWaysSaid : Prop := withinWaysRow.holds Try.pinned (OpenSpec.ofChange withinWaysSpec)

/-- ITS FALSE NEIGHBOUR: 'it returns false'. Refute it at one input. -/
def withinWaysWrong : ChangeSpec := { name := "withinWays", fn := fun _ => fun
  | [d1, d2] => { results := [.lit (.bool false)], args := [d1, d2] }
  | _ => none }
def WithinWaysWrongFalsely : Prop := withinWaysRow.holds Try.pinned (OpenSpec.ofChange withinWaysWrong)

/-- 'parquetlaw09.WithinBoth': WHATEVER THE INPUT: true; the input reads as it did. -/
def withinBothSpec : ChangeSpec := { name := "withinBoth", fn := fun _ => fun
  | [d1, d2, d3] => { results := [.lit (.bool true)], args := [d1, d2, d3] }
  | _ => none }
def withinBothRow : OpenClaim := { program := "ytkidphekfnmhhaa", sum := "77d1f006e90a4b2c856a42d4039def2eaf07f8638909141c00e281530f84a19b", func := "parquet/parquetlaw09.WithinBoth", spec := "withinBoth", inPlace := ["math/bits.Sub64", "math/bits.Add64"], unfollowed := true, recurses := true, plainKeys := false, apart := false }
def WithinBothSaid : Prop := withinBothRow.holds Try.pinned (OpenSpec.ofChange withinBothSpec)

/-- ITS FALSE NEIGHBOUR: 'it returns false'. Refute it at one input. -/
def withinBothWrong : ChangeSpec := { name := "withinBoth", fn := fun _ => fun
  | [d1, d2, d3] => { results := [.lit (.bool false)], args := [d1, d2, d3] }
  | _ => none }
def WithinBothWrongFalsely : Prop := withinBothRow.holds Try.pinned (OpenSpec.ofChange withinBothWrong)

/-- 'parquetlaw09.WithinBox': WHATEVER THE INPUT: true; the input reads as it did. -/
def withinBoxSpec : ChangeSpec := { name := "withinBox", fn := fun _ => fun
  | [d1, d2, d3, d4] => { results := [.lit (.bool true)], args := [d1, d2, d3, d4] }
  | _ => none }
def withinBoxRow : OpenClaim := { program := "ytkidphekfnmhhaa", sum := "77d1f006e90a4b2c856a42d4039def2eaf07f8638909141c00e281530f84a19b", func := "parquet/parquetlaw09.WithinBox", spec := "withinBox", inPlace := ["math/bits.Sub64", "math/bits.Add64"], unfollowed := true, recurses := true, plainKeys := false, apart := false }
def WithinBoxSaid : Prop := withinBoxRow.holds Try.pinned (OpenSpec.ofChange withinBoxSpec)

/-- ITS FALSE NEIGHBOUR: 'it returns false'. Refute it at one input. -/
def withinBoxWrong : ChangeSpec := { name := "withinBox", fn := fun _ => fun
  | [d1, d2, d3, d4] => { results := [.lit (.bool false)], args := [d1, d2, d3, d4] }
  | _ => none }
def WithinBoxWrongFalsely : Prop := withinBoxRow.holds Try.pinned (OpenSpec.ofChange withinBoxWrong)

/-- 'parquetlaw09.WithinSplit': WHATEVER THE INPUT: true; the input reads as it did. -/
def withinSplitSpec : ChangeSpec := { name := "withinSplit", fn := fun _ => fun
  | [d1, d2, d3, d4] => { results := [.lit (.bool true)], args := [d1, d2, d3, d4] }
  | _ => none }
def withinSplitRow : OpenClaim := { program := "ytkidphekfnmhhaa", sum := "77d1f006e90a4b2c856a42d4039def2eaf07f8638909141c00e281530f84a19b", func := "parquet/parquetlaw09.WithinSplit", spec := "withinSplit", inPlace := ["math/bits.Sub64", "math/bits.Add64"], unfollowed := true, recurses := true, plainKeys := false, apart := false }
def WithinSplitSaid : Prop := withinSplitRow.holds Try.pinned (OpenSpec.ofChange withinSplitSpec)

/-- ITS FALSE NEIGHBOUR: 'it returns false'. Refute it at one input. -/
def withinSplitWrong : ChangeSpec := { name := "withinSplit", fn := fun _ => fun
  | [d1, d2, d3, d4] => { results := [.lit (.bool false)], args := [d1, d2, d3, d4] }
  | _ => none }
def WithinSplitWrongFalsely : Prop := withinSplitRow.holds Try.pinned (OpenSpec.ofChange withinSplitWrong)

/-- 'parquetlaw08.RingsBack': WHATEVER THE INPUT: true; the input reads as it did. -/
def ringsBackSpec : ChangeSpec := { name := "ringsBack", fn := fun _ => fun
  | [d1, d2] => { results := [.lit (.bool true)], args := [d1, d2] }
  | _ => none }
def ringsBackRow : OpenClaim := { program := "ytkidphekfnmhhaa", sum := "77d1f006e90a4b2c856a42d4039def2eaf07f8638909141c00e281530f84a19b", func := "parquet/parquetlaw08.RingsBack", spec := "ringsBack", inPlace := ["math/bits.Add64", "math/bits.Sub64"], unfollowed := true, recurses := true, plainKeys := false, apart := false }
def RingsBackSaid : Prop := ringsBackRow.holds Try.pinned (OpenSpec.ofChange ringsBackSpec)

/-- ITS FALSE NEIGHBOUR: 'it returns false'. Refute it at one input. -/
def ringsBackWrong : ChangeSpec := { name := "ringsBack", fn := fun _ => fun
  | [d1, d2] => { results := [.lit (.bool false)], args := [d1, d2] }
  | _ => none }
def RingsBackWrongFalsely : Prop := ringsBackRow.holds Try.pinned (OpenSpec.ofChange ringsBackWrong)

/-- 'parquetlaw08.RingsJoin': WHATEVER THE INPUT: true; the input reads as it did. -/
def ringsJoinSpec : ChangeSpec := { name := "ringsJoin", fn := fun _ => fun
  | [d1, d2, d3, d4] => { results := [.lit (.bool true)], args := [d1, d2, d3, d4] }
  | _ => none }
def ringsJoinRow : OpenClaim := { program := "ytkidphekfnmhhaa", sum := "77d1f006e90a4b2c856a42d4039def2eaf07f8638909141c00e281530f84a19b", func := "parquet/parquetlaw08.RingsJoin", spec := "ringsJoin", inPlace := ["math/bits.Add64", "math/bits.Sub64"], unfollowed := true, recurses := true, plainKeys := false, apart := false }
def RingsJoinSaid : Prop := ringsJoinRow.holds Try.pinned (OpenSpec.ofChange ringsJoinSpec)

/-- ITS FALSE NEIGHBOUR: 'it returns false'. Refute it at one input. -/
def ringsJoinWrong : ChangeSpec := { name := "ringsJoin", fn := fun _ => fun
  | [d1, d2, d3, d4] => { results := [.lit (.bool false)], args := [d1, d2, d3, d4] }
  | _ => none }
def RingsJoinWrongFalsely : Prop := ringsJoinRow.holds Try.pinned (OpenSpec.ofChange ringsJoinWrong)

/- THE SECOND FORM. 'bulk': how many values and letters a reading holds, each counted each time it is reached (what is shared counts as often as it is met; a slice's spare places count too). A statement '..UptoSaid' is the law's where the arguments, and the package variables that the reading takes, are together of bulk at most 1048576: NARROWER than '..Said'. Prove '..Said' where nothing that the law and all that it calls make is longer than what came in: it says more and counts as full. Else prove '..UptoSaid'. A law counts once. -/
mutual
def uptoBulk {H : Type} : DataW H → Nat
  | .lit (.string bytes) => bytes.length + 1
  | .lit _ => 1
  | .nil => 1
  | .ptr d => uptoBulk d + 1
  | .slice elems spare => uptoBulkAll elems + uptoBulkAll spare + 1
  | .agg parts => uptoBulkAll parts + 1
  | .iface _ d => uptoBulk d + 1
  | .map entries => uptoBulkEntries entries + 1
  | .held _ => 1
def uptoBulkAll {H : Type} : List (DataW H) → Nat
  | [] => 0
  | d :: r => uptoBulk d + uptoBulkAll r
def uptoBulkEntries {H : Type} : List (Lit × DataW H) → Nat
  | [] => 0
  | x :: r => uptoBulkEntry x + uptoBulkEntries r
def uptoBulkEntry {H : Type} : Lit × DataW H → Nat
  | (.string bytes, d) => bytes.length + uptoBulk d + 1
  | (_, d) => uptoBulk d + 1
 end
def uptoSmall : (H : Type) → List (DataW H) → Bool := fun _ ds => decide (uptoBulkAll ds ≤ 1048576)
def OpenSpec.upto (s : _root_.Go.ChangeSpec) : _root_.Go.OpenSpec := { _root_.Go.OpenSpec.ofChange s with cond := some uptoSmall }

/-- 'parquetlaw09.WithinTells', WHERE WHAT IT READS IS OF BULK AT MOST 1048576: true; the input reads as it did. -/
def withinTellsUptoRow : OpenClaim := { program := "ytkidphekfnmhhaa", sum := "77d1f006e90a4b2c856a42d4039def2eaf07f8638909141c00e281530f84a19b", func := "parquet/parquetlaw09.WithinTells", spec := "withinTells", inPlace := ["math/bits.Sub64", "math/bits.Add64"], unfollowed := true, recurses := true, plainKeys := false, apart := false, narrowed := true }
def WithinTellsUptoSaid : Prop := withinTellsUptoRow.holds Try.pinned (OpenSpec.upto withinTellsSpec)

/-- 'parquetlaw09.WithinMiddles', WHERE WHAT IT READS IS OF BULK AT MOST 1048576: true; the input reads as it did. -/
def withinMiddlesUptoRow : OpenClaim := { program := "ytkidphekfnmhhaa", sum := "77d1f006e90a4b2c856a42d4039def2eaf07f8638909141c00e281530f84a19b", func := "parquet/parquetlaw09.WithinMiddles", spec := "withinMiddles", inPlace := ["math/bits.Sub64", "math/bits.Add64"], unfollowed := true, recurses := true, plainKeys := false, apart := false, narrowed := true }
def WithinMiddlesUptoSaid : Prop := withinMiddlesUptoRow.holds Try.pinned (OpenSpec.upto withinMiddlesSpec)

/-- 'parquetlaw09.WithinDeep', WHERE WHAT IT READS IS OF BULK AT MOST 1048576: true; the input reads as it did. -/
def withinDeepUptoRow : OpenClaim := { program := "ytkidphekfnmhhaa", sum := "77d1f006e90a4b2c856a42d4039def2eaf07f8638909141c00e281530f84a19b", func := "parquet/parquetlaw09.WithinDeep", spec := "withinDeep", inPlace := ["math/bits.Sub64", "math/bits.Add64"], unfollowed := true, recurses := true, plainKeys := false, apart := false, narrowed := true }
def WithinDeepUptoSaid : Prop := withinDeepUptoRow.holds Try.pinned (OpenSpec.upto withinDeepSpec)

/-- 'parquetlaw09.WithinWays', WHERE WHAT IT READS IS OF BULK AT MOST 1048576: true; the input reads as it did. -/
def withinWaysUptoRow : OpenClaim := { program := "ytkidphekfnmhhaa", sum := "77d1f006e90a4b2c856a42d4039def2eaf07f8638909141c00e281530f84a19b", func := "parquet/parquetlaw09.WithinWays", spec := "withinWays", inPlace := ["math/bits.Sub64", "math/bits.Add64"], unfollowed := true, recurses := true, plainKeys := false, apart := false, narrowed := true }
def WithinWaysUptoSaid : Prop := withinWaysUptoRow.holds Try.pinned (OpenSpec.upto withinWaysSpec)

/-- 'parquetlaw09.WithinBoth', WHERE WHAT IT READS IS OF BULK AT MOST 1048576: true; the input reads as it did. -/
def withinBothUptoRow : OpenClaim := { program := "ytkidphekfnmhhaa", sum := "77d1f006e90a4b2c856a42d4039def2eaf07f8638909141c00e281530f84a19b", func := "parquet/parquetlaw09.WithinBoth", spec := "withinBoth", inPlace := ["math/bits.Sub64", "math/bits.Add64"], unfollowed := true, recurses := true, plainKeys := false, apart := false, narrowed := true }
def WithinBothUptoSaid : Prop := withinBothUptoRow.holds Try.pinned (OpenSpec.upto withinBothSpec)

/-- 'parquetlaw09.WithinBox', WHERE WHAT IT READS IS OF BULK AT MOST 1048576: true; the input reads as it did. -/
def withinBoxUptoRow : OpenClaim := { program := "ytkidphekfnmhhaa", sum := "77d1f006e90a4b2c856a42d4039def2eaf07f8638909141c00e281530f84a19b", func := "parquet/parquetlaw09.WithinBox", spec := "withinBox", inPlace := ["math/bits.Sub64", "math/bits.Add64"], unfollowed := true, recurses := true, plainKeys := false, apart := false, narrowed := true }
def WithinBoxUptoSaid : Prop := withinBoxUptoRow.holds Try.pinned (OpenSpec.upto withinBoxSpec)

/-- 'parquetlaw09.WithinSplit', WHERE WHAT IT READS IS OF BULK AT MOST 1048576: true; the input reads as it did. -/
def withinSplitUptoRow : OpenClaim := { program := "ytkidphekfnmhhaa", sum := "77d1f006e90a4b2c856a42d4039def2eaf07f8638909141c00e281530f84a19b", func := "parquet/parquetlaw09.WithinSplit", spec := "withinSplit", inPlace := ["math/bits.Sub64", "math/bits.Add64"], unfollowed := true, recurses := true, plainKeys := false, apart := false, narrowed := true }
def WithinSplitUptoSaid : Prop := withinSplitUptoRow.holds Try.pinned (OpenSpec.upto withinSplitSpec)

/-- 'parquetlaw08.RingsBack', WHERE WHAT IT READS IS OF BULK AT MOST 1048576: true; the input reads as it did. -/
def ringsBackUptoRow : OpenClaim := { program := "ytkidphekfnmhhaa", sum := "77d1f006e90a4b2c856a42d4039def2eaf07f8638909141c00e281530f84a19b", func := "parquet/parquetlaw08.RingsBack", spec := "ringsBack", inPlace := ["math/bits.Add64", "math/bits.Sub64"], unfollowed := true, recurses := true, plainKeys := false, apart := false, narrowed := true }
def RingsBackUptoSaid : Prop := ringsBackUptoRow.holds Try.pinned (OpenSpec.upto ringsBackSpec)

/-- 'parquetlaw08.RingsJoin', WHERE WHAT IT READS IS OF BULK AT MOST 1048576: true; the input reads as it did. -/
def ringsJoinUptoRow : OpenClaim := { program := "ytkidphekfnmhhaa", sum := "77d1f006e90a4b2c856a42d4039def2eaf07f8638909141c00e281530f84a19b", func := "parquet/parquetlaw08.RingsJoin", spec := "ringsJoin", inPlace := ["math/bits.Add64", "math/bits.Sub64"], unfollowed := true, recurses := true, plainKeys := false, apart := false, narrowed := true }
def RingsJoinUptoSaid : Prop := ringsJoinUptoRow.holds Try.pinned (OpenSpec.upto ringsJoinSpec)

end Rows
end Go.Proofs.Ytkidphekfnmhhaa
