/-
  NARROWER THAN 'FOR EVERY INPUT', by the rows' own cells (each row's printed sentence says how): InputPrints: laid · InputParses: laid · InputBack: laid · InputCut: laid · InputRanges: laid · InputLoose: laid · InputApart: laid.
  DERIVED. THE GIVEN ROWS OF THIS SEAT. 7 by the template 'for every input the law returns true; each argument reads behind the call as it read before'; 0 by the template 'total and deterministic' (their statements: YtdpbmkfgolemjaaDoorTotals.lean).
  GIVEN WITH THE SEED: the statements are not yours to turn. If you find one false, say at which input.
  Laid BY PROGRAM, IN A SANDBOX (cutbox-rows.mjs): the forced cells as the released guide's own fill.sh prints them over the translation 6022598a1d5c745b… (all of the seat's roots in one cut). By AI agents, Wed Nov 11 2026. No macro, syntax, notation, axiom, sorry.
-/
import Derived.Test.YtdpbmkfgolemjaaDoorChecked
import GoSem.Claim
import GoSem.ClaimJoined
import GoSem.ClaimMapViews
import Derived.JoinedTies
import Derived.KernelRfl
namespace Go.Proofs.YtdpbmkfgolemjaaDoor
/- THE CELL 'sum', in the pinned program and in every row, IS THE sha256 OF THE DUMP (.gsa) THAT YtdpbmkfgolemjaaDoorProg.lean LOADS. Nothing in Lean hashes anything: it is a label: what it is worth is what the hold of that sum in a sandbox is worth. -/
noncomputable def Tryd.pinned : Pinned := { name := "ytdpbmkfgolemjaadoor", sum := "6022598a1d5c745b6ab53ec8901f74ca4475fcf0e11753ad0836a80d3ca0dd4e", checked := Tryd.checked }
namespace Rows
def none {H : Type} : Left H := { results := [], args := [] }

/- WHAT THE LISTED PACKAGE-LEVEL VARIABLES READ AS WHEN THE CALL BEGINS. Each datum BY PROGRAM (the guide's laid-datum.mjs) off the statement by which the dump's own 'gosem.cut.vars' lays the variable. In a bare row this is a premise. The card (YtdpbmkfgolemjaaDoorCards.lean) ties it to the program's text. -/
def laid_math_bits_deBruijn32tab {H : Type} : DataW H := .agg [.lit (.int .u8 0), .lit (.int .u8 1), .lit (.int .u8 28), .lit (.int .u8 2), .lit (.int .u8 29), .lit (.int .u8 14), .lit (.int .u8 24), .lit (.int .u8 3), .lit (.int .u8 30), .lit (.int .u8 22), .lit (.int .u8 20), .lit (.int .u8 15), .lit (.int .u8 25), .lit (.int .u8 17), .lit (.int .u8 4), .lit (.int .u8 8), .lit (.int .u8 31), .lit (.int .u8 27), .lit (.int .u8 13), .lit (.int .u8 23), .lit (.int .u8 21), .lit (.int .u8 19), .lit (.int .u8 16), .lit (.int .u8 7), .lit (.int .u8 26), .lit (.int .u8 12), .lit (.int .u8 18), .lit (.int .u8 6), .lit (.int .u8 11), .lit (.int .u8 5), .lit (.int .u8 10), .lit (.int .u8 9)]
def laid_math_bits_deBruijn64tab {H : Type} : DataW H := .agg [.lit (.int .u8 0), .lit (.int .u8 1), .lit (.int .u8 56), .lit (.int .u8 2), .lit (.int .u8 57), .lit (.int .u8 49), .lit (.int .u8 28), .lit (.int .u8 3), .lit (.int .u8 61), .lit (.int .u8 58), .lit (.int .u8 42), .lit (.int .u8 50), .lit (.int .u8 38), .lit (.int .u8 29), .lit (.int .u8 17), .lit (.int .u8 4), .lit (.int .u8 62), .lit (.int .u8 47), .lit (.int .u8 59), .lit (.int .u8 36), .lit (.int .u8 45), .lit (.int .u8 43), .lit (.int .u8 51), .lit (.int .u8 22), .lit (.int .u8 53), .lit (.int .u8 39), .lit (.int .u8 33), .lit (.int .u8 30), .lit (.int .u8 24), .lit (.int .u8 18), .lit (.int .u8 12), .lit (.int .u8 5), .lit (.int .u8 63), .lit (.int .u8 55), .lit (.int .u8 48), .lit (.int .u8 27), .lit (.int .u8 60), .lit (.int .u8 41), .lit (.int .u8 37), .lit (.int .u8 16), .lit (.int .u8 46), .lit (.int .u8 35), .lit (.int .u8 44), .lit (.int .u8 21), .lit (.int .u8 52), .lit (.int .u8 32), .lit (.int .u8 23), .lit (.int .u8 11), .lit (.int .u8 54), .lit (.int .u8 26), .lit (.int .u8 40), .lit (.int .u8 15), .lit (.int .u8 34), .lit (.int .u8 20), .lit (.int .u8 31), .lit (.int .u8 10), .lit (.int .u8 25), .lit (.int .u8 14), .lit (.int .u8 19), .lit (.int .u8 9), .lit (.int .u8 13), .lit (.int .u8 8), .lit (.int .u8 7), .lit (.int .u8 6)]
def laid_internal_strconv_uint64pow10 {H : Type} : DataW H := .agg [.lit (.int .u64 1), .lit (.int .u64 10), .lit (.int .u64 100), .lit (.int .u64 1000), .lit (.int .u64 10000), .lit (.int .u64 100000), .lit (.int .u64 1000000), .lit (.int .u64 10000000), .lit (.int .u64 100000000), .lit (.int .u64 1000000000), .lit (.int .u64 10000000000), .lit (.int .u64 100000000000), .lit (.int .u64 1000000000000), .lit (.int .u64 10000000000000), .lit (.int .u64 100000000000000), .lit (.int .u64 1000000000000000), .lit (.int .u64 10000000000000000), .lit (.int .u64 100000000000000000), .lit (.int .u64 1000000000000000000), .lit (.int .u64 10000000000000000000)]

/-- 'parquetlaw05.InputPrints': WHATEVER THE INPUT: true; the input reads as it did. -/
def inputPrintsSpec : ChangeSpec := { name := "inputPrints", fn := fun _ => fun
  | [d] => { results := [.lit (.bool true)], args := [d] }
  | _ => none }
def inputPrintsRow : OpenClaim := { program := "ytdpbmkfgolemjaadoor", sum := "6022598a1d5c745b6ab53ec8901f74ca4475fcf0e11753ad0836a80d3ca0dd4e", func := "parquet/parquetlaw05.InputPrints", spec := "inputPrints", inPlace := ["internal/abi.NoEscape", "internal/bytealg.MakeNoZero"], unfollowed := true, recurses := true, named := ["internal/strconv.uint64pow10", "math/bits.deBruijn32tab", "math/bits.deBruijn64tab"], apart := false, laid := [("math/bits.deBruijn32tab", laid_math_bits_deBruijn32tab), ("math/bits.deBruijn64tab", laid_math_bits_deBruijn64tab), ("internal/strconv.uint64pow10", laid_internal_strconv_uint64pow10)] }
def InputPrintsSaid : Prop := inputPrintsRow.holds Tryd.pinned (OpenSpec.ofChange inputPrintsSpec)

/-- ITS FALSE NEIGHBOUR: 'it returns false'. Refute it at one input. -/
def inputPrintsWrong : ChangeSpec := { name := "inputPrints", fn := fun _ => fun
  | [d] => { results := [.lit (.bool false)], args := [d] }
  | _ => none }
def InputPrintsWrongFalsely : Prop := inputPrintsRow.holds Tryd.pinned (OpenSpec.ofChange inputPrintsWrong)

/-- 'parquetlaw05.InputParses': WHATEVER THE INPUT: true; the input reads as it did. -/
def inputParsesSpec : ChangeSpec := { name := "inputParses", fn := fun _ => fun
  | [d] => { results := [.lit (.bool true)], args := [d] }
  | _ => none }
def inputParsesRow : OpenClaim := { program := "ytdpbmkfgolemjaadoor", sum := "6022598a1d5c745b6ab53ec8901f74ca4475fcf0e11753ad0836a80d3ca0dd4e", func := "parquet/parquetlaw05.InputParses", spec := "inputParses", inPlace := ["internal/abi.NoEscape", "internal/bytealg.MakeNoZero"], unfollowed := true, recurses := true, named := ["internal/strconv.uint64pow10", "math/bits.deBruijn32tab", "math/bits.deBruijn64tab"], apart := false, laid := [("math/bits.deBruijn32tab", laid_math_bits_deBruijn32tab), ("math/bits.deBruijn64tab", laid_math_bits_deBruijn64tab), ("internal/strconv.uint64pow10", laid_internal_strconv_uint64pow10)] }
def InputParsesSaid : Prop := inputParsesRow.holds Tryd.pinned (OpenSpec.ofChange inputParsesSpec)

/-- ITS FALSE NEIGHBOUR: 'it returns false'. Refute it at one input. -/
def inputParsesWrong : ChangeSpec := { name := "inputParses", fn := fun _ => fun
  | [d] => { results := [.lit (.bool false)], args := [d] }
  | _ => none }
def InputParsesWrongFalsely : Prop := inputParsesRow.holds Tryd.pinned (OpenSpec.ofChange inputParsesWrong)

/-- 'parquetlaw05.InputBack': WHATEVER THE INPUT: true; the input reads as it did. -/
def inputBackSpec : ChangeSpec := { name := "inputBack", fn := fun _ => fun
  | [d1, d2] => { results := [.lit (.bool true)], args := [d1, d2] }
  | _ => none }
def inputBackRow : OpenClaim := { program := "ytdpbmkfgolemjaadoor", sum := "6022598a1d5c745b6ab53ec8901f74ca4475fcf0e11753ad0836a80d3ca0dd4e", func := "parquet/parquetlaw05.InputBack", spec := "inputBack", inPlace := ["internal/abi.NoEscape", "internal/bytealg.MakeNoZero"], unfollowed := true, recurses := true, named := ["internal/strconv.uint64pow10", "math/bits.deBruijn32tab", "math/bits.deBruijn64tab"], apart := false, laid := [("math/bits.deBruijn32tab", laid_math_bits_deBruijn32tab), ("math/bits.deBruijn64tab", laid_math_bits_deBruijn64tab), ("internal/strconv.uint64pow10", laid_internal_strconv_uint64pow10)] }
def InputBackSaid : Prop := inputBackRow.holds Tryd.pinned (OpenSpec.ofChange inputBackSpec)

/-- ITS FALSE NEIGHBOUR: 'it returns false'. Refute it at one input. -/
def inputBackWrong : ChangeSpec := { name := "inputBack", fn := fun _ => fun
  | [d1, d2] => { results := [.lit (.bool false)], args := [d1, d2] }
  | _ => none }
def InputBackWrongFalsely : Prop := inputBackRow.holds Tryd.pinned (OpenSpec.ofChange inputBackWrong)

/-- 'parquetlaw05.InputCut': WHATEVER THE INPUT: true; the input reads as it did. -/
def inputCutSpec : ChangeSpec := { name := "inputCut", fn := fun _ => fun
  | [d1, d2, d3] => { results := [.lit (.bool true)], args := [d1, d2, d3] }
  | _ => none }
def inputCutRow : OpenClaim := { program := "ytdpbmkfgolemjaadoor", sum := "6022598a1d5c745b6ab53ec8901f74ca4475fcf0e11753ad0836a80d3ca0dd4e", func := "parquet/parquetlaw05.InputCut", spec := "inputCut", inPlace := ["internal/abi.NoEscape", "internal/bytealg.MakeNoZero"], unfollowed := true, recurses := true, named := ["internal/strconv.uint64pow10", "math/bits.deBruijn32tab", "math/bits.deBruijn64tab"], apart := false, laid := [("math/bits.deBruijn32tab", laid_math_bits_deBruijn32tab), ("math/bits.deBruijn64tab", laid_math_bits_deBruijn64tab), ("internal/strconv.uint64pow10", laid_internal_strconv_uint64pow10)] }
def InputCutSaid : Prop := inputCutRow.holds Tryd.pinned (OpenSpec.ofChange inputCutSpec)

/-- ITS FALSE NEIGHBOUR: 'it returns false'. Refute it at one input. -/
def inputCutWrong : ChangeSpec := { name := "inputCut", fn := fun _ => fun
  | [d1, d2, d3] => { results := [.lit (.bool false)], args := [d1, d2, d3] }
  | _ => none }
def InputCutWrongFalsely : Prop := inputCutRow.holds Tryd.pinned (OpenSpec.ofChange inputCutWrong)

/-- 'parquetlaw05.InputRanges': WHATEVER THE INPUT: true; the input reads as it did. -/
def inputRangesSpec : ChangeSpec := { name := "inputRanges", fn := fun _ => fun
  | [d1, d2, d3] => { results := [.lit (.bool true)], args := [d1, d2, d3] }
  | _ => none }
def inputRangesRow : OpenClaim := { program := "ytdpbmkfgolemjaadoor", sum := "6022598a1d5c745b6ab53ec8901f74ca4475fcf0e11753ad0836a80d3ca0dd4e", func := "parquet/parquetlaw05.InputRanges", spec := "inputRanges", inPlace := ["internal/abi.NoEscape", "internal/bytealg.MakeNoZero"], unfollowed := true, recurses := true, named := ["internal/strconv.uint64pow10", "math/bits.deBruijn32tab", "math/bits.deBruijn64tab"], apart := false, laid := [("math/bits.deBruijn32tab", laid_math_bits_deBruijn32tab), ("math/bits.deBruijn64tab", laid_math_bits_deBruijn64tab), ("internal/strconv.uint64pow10", laid_internal_strconv_uint64pow10)] }
def InputRangesSaid : Prop := inputRangesRow.holds Tryd.pinned (OpenSpec.ofChange inputRangesSpec)

/-- ITS FALSE NEIGHBOUR: 'it returns false'. Refute it at one input. -/
def inputRangesWrong : ChangeSpec := { name := "inputRanges", fn := fun _ => fun
  | [d1, d2, d3] => { results := [.lit (.bool false)], args := [d1, d2, d3] }
  | _ => none }
def InputRangesWrongFalsely : Prop := inputRangesRow.holds Tryd.pinned (OpenSpec.ofChange inputRangesWrong)

/-- 'parquetlaw05.InputLoose': WHATEVER THE INPUT: true; the input reads as it did. -/
def inputLooseSpec : ChangeSpec := { name := "inputLoose", fn := fun _ => fun
  | [d1, d2] => { results := [.lit (.bool true)], args := [d1, d2] }
  | _ => none }
def inputLooseRow : OpenClaim := { program := "ytdpbmkfgolemjaadoor", sum := "6022598a1d5c745b6ab53ec8901f74ca4475fcf0e11753ad0836a80d3ca0dd4e", func := "parquet/parquetlaw05.InputLoose", spec := "inputLoose", inPlace := ["internal/abi.NoEscape", "internal/bytealg.MakeNoZero"], unfollowed := true, recurses := true, named := ["internal/strconv.uint64pow10", "math/bits.deBruijn32tab", "math/bits.deBruijn64tab"], apart := false, laid := [("math/bits.deBruijn32tab", laid_math_bits_deBruijn32tab), ("math/bits.deBruijn64tab", laid_math_bits_deBruijn64tab), ("internal/strconv.uint64pow10", laid_internal_strconv_uint64pow10)] }
def InputLooseSaid : Prop := inputLooseRow.holds Tryd.pinned (OpenSpec.ofChange inputLooseSpec)

/-- ITS FALSE NEIGHBOUR: 'it returns false'. Refute it at one input. -/
def inputLooseWrong : ChangeSpec := { name := "inputLoose", fn := fun _ => fun
  | [d1, d2] => { results := [.lit (.bool false)], args := [d1, d2] }
  | _ => none }
def InputLooseWrongFalsely : Prop := inputLooseRow.holds Tryd.pinned (OpenSpec.ofChange inputLooseWrong)

/-- 'parquetlaw05.InputApart': WHATEVER THE INPUT: true; the input reads as it did. -/
def inputApartSpec : ChangeSpec := { name := "inputApart", fn := fun _ => fun
  | [d1, d2] => { results := [.lit (.bool true)], args := [d1, d2] }
  | _ => none }
def inputApartRow : OpenClaim := { program := "ytdpbmkfgolemjaadoor", sum := "6022598a1d5c745b6ab53ec8901f74ca4475fcf0e11753ad0836a80d3ca0dd4e", func := "parquet/parquetlaw05.InputApart", spec := "inputApart", inPlace := ["internal/abi.NoEscape", "internal/bytealg.MakeNoZero"], unfollowed := true, recurses := true, named := ["internal/strconv.uint64pow10", "math/bits.deBruijn32tab", "math/bits.deBruijn64tab"], apart := false, laid := [("math/bits.deBruijn32tab", laid_math_bits_deBruijn32tab), ("math/bits.deBruijn64tab", laid_math_bits_deBruijn64tab), ("internal/strconv.uint64pow10", laid_internal_strconv_uint64pow10)] }
def InputApartSaid : Prop := inputApartRow.holds Tryd.pinned (OpenSpec.ofChange inputApartSpec)

/-- ITS FALSE NEIGHBOUR: 'it returns false'. Refute it at one input. -/
def inputApartWrong : ChangeSpec := { name := "inputApart", fn := fun _ => fun
  | [d1, d2] => { results := [.lit (.bool false)], args := [d1, d2] }
  | _ => none }
def InputApartWrongFalsely : Prop := inputApartRow.holds Tryd.pinned (OpenSpec.ofChange inputApartWrong)

/- THE SECOND FORM. 'bulk': how many values and letters a reading holds, each counted each time it is reached (what is shared counts as often as it is met; a slice's spare places count too). A statement '..UptoSaid' is the law's where the arguments, and the package variables that the reading takes, are together of bulk at most 1048576: NARROWER than '..Said'. Prove '..Said' where nothing that the law and all that it calls make is longer than what came in: it says more and counts as full. Else prove '..UptoSaid'. A law counts once. -/
mutual
def uptoBulk {H : Type} : DataW H → Nat
  | .lit (.string bytes) => bytes.length + 1
  | .lit _ => 1
  | .nil => 1
  | .ptr d => uptoBulk d + 1
  | .slice elems spare => uptoBulkAll elems + uptoBulkAll spare + 1
  | .agg parts => uptoBulkAll parts + 1
  | .iface _ d => uptoBulk d + 1
  | .map entries => uptoBulkEntries entries + 1
  | .held _ => 1
def uptoBulkAll {H : Type} : List (DataW H) → Nat
  | [] => 0
  | d :: r => uptoBulk d + uptoBulkAll r
def uptoBulkEntries {H : Type} : List (Lit × DataW H) → Nat
  | [] => 0
  | x :: r => uptoBulkEntry x + uptoBulkEntries r
def uptoBulkEntry {H : Type} : Lit × DataW H → Nat
  | (.string bytes, d) => bytes.length + uptoBulk d + 1
  | (_, d) => uptoBulk d + 1
 end
def uptoSmall : (H : Type) → List (DataW H) → Bool := fun _ ds => decide (uptoBulkAll ds ≤ 1048576)
def OpenSpec.upto (s : _root_.Go.ChangeSpec) : _root_.Go.OpenSpec := { _root_.Go.OpenSpec.ofChange s with cond := some uptoSmall }

/-- 'parquetlaw05.InputPrints', WHERE WHAT IT READS IS OF BULK AT MOST 1048576: true; the input reads as it did. -/
def inputPrintsUptoRow : OpenClaim := { program := "ytdpbmkfgolemjaadoor", sum := "6022598a1d5c745b6ab53ec8901f74ca4475fcf0e11753ad0836a80d3ca0dd4e", func := "parquet/parquetlaw05.InputPrints", spec := "inputPrints", inPlace := ["internal/abi.NoEscape", "internal/bytealg.MakeNoZero"], unfollowed := true, recurses := true, named := ["internal/strconv.uint64pow10", "math/bits.deBruijn32tab", "math/bits.deBruijn64tab"], apart := false, laid := [("math/bits.deBruijn32tab", laid_math_bits_deBruijn32tab), ("math/bits.deBruijn64tab", laid_math_bits_deBruijn64tab), ("internal/strconv.uint64pow10", laid_internal_strconv_uint64pow10)], narrowed := true }
def InputPrintsUptoSaid : Prop := inputPrintsUptoRow.holds Tryd.pinned (OpenSpec.upto inputPrintsSpec)

/-- 'parquetlaw05.InputParses', WHERE WHAT IT READS IS OF BULK AT MOST 1048576: true; the input reads as it did. -/
def inputParsesUptoRow : OpenClaim := { program := "ytdpbmkfgolemjaadoor", sum := "6022598a1d5c745b6ab53ec8901f74ca4475fcf0e11753ad0836a80d3ca0dd4e", func := "parquet/parquetlaw05.InputParses", spec := "inputParses", inPlace := ["internal/abi.NoEscape", "internal/bytealg.MakeNoZero"], unfollowed := true, recurses := true, named := ["internal/strconv.uint64pow10", "math/bits.deBruijn32tab", "math/bits.deBruijn64tab"], apart := false, laid := [("math/bits.deBruijn32tab", laid_math_bits_deBruijn32tab), ("math/bits.deBruijn64tab", laid_math_bits_deBruijn64tab), ("internal/strconv.uint64pow10", laid_internal_strconv_uint64pow10)], narrowed := true }
def InputParsesUptoSaid : Prop := inputParsesUptoRow.holds Tryd.pinned (OpenSpec.upto inputParsesSpec)

/-- 'parquetlaw05.InputBack', WHERE WHAT IT READS IS OF BULK AT MOST 1048576: true; the input reads as it did. -/
def inputBackUptoRow : OpenClaim := { program := "ytdpbmkfgolemjaadoor", sum := "6022598a1d5c745b6ab53ec8901f74ca4475fcf0e11753ad0836a80d3ca0dd4e", func := "parquet/parquetlaw05.InputBack", spec := "inputBack", inPlace := ["internal/abi.NoEscape", "internal/bytealg.MakeNoZero"], unfollowed := true, recurses := true, named := ["internal/strconv.uint64pow10", "math/bits.deBruijn32tab", "math/bits.deBruijn64tab"], apart := false, laid := [("math/bits.deBruijn32tab", laid_math_bits_deBruijn32tab), ("math/bits.deBruijn64tab", laid_math_bits_deBruijn64tab), ("internal/strconv.uint64pow10", laid_internal_strconv_uint64pow10)], narrowed := true }
def InputBackUptoSaid : Prop := inputBackUptoRow.holds Tryd.pinned (OpenSpec.upto inputBackSpec)

/-- 'parquetlaw05.InputCut', WHERE WHAT IT READS IS OF BULK AT MOST 1048576: true; the input reads as it did. -/
def inputCutUptoRow : OpenClaim := { program := "ytdpbmkfgolemjaadoor", sum := "6022598a1d5c745b6ab53ec8901f74ca4475fcf0e11753ad0836a80d3ca0dd4e", func := "parquet/parquetlaw05.InputCut", spec := "inputCut", inPlace := ["internal/abi.NoEscape", "internal/bytealg.MakeNoZero"], unfollowed := true, recurses := true, named := ["internal/strconv.uint64pow10", "math/bits.deBruijn32tab", "math/bits.deBruijn64tab"], apart := false, laid := [("math/bits.deBruijn32tab", laid_math_bits_deBruijn32tab), ("math/bits.deBruijn64tab", laid_math_bits_deBruijn64tab), ("internal/strconv.uint64pow10", laid_internal_strconv_uint64pow10)], narrowed := true }
def InputCutUptoSaid : Prop := inputCutUptoRow.holds Tryd.pinned (OpenSpec.upto inputCutSpec)

/-- 'parquetlaw05.InputRanges', WHERE WHAT IT READS IS OF BULK AT MOST 1048576: true; the input reads as it did. -/
def inputRangesUptoRow : OpenClaim := { program := "ytdpbmkfgolemjaadoor", sum := "6022598a1d5c745b6ab53ec8901f74ca4475fcf0e11753ad0836a80d3ca0dd4e", func := "parquet/parquetlaw05.InputRanges", spec := "inputRanges", inPlace := ["internal/abi.NoEscape", "internal/bytealg.MakeNoZero"], unfollowed := true, recurses := true, named := ["internal/strconv.uint64pow10", "math/bits.deBruijn32tab", "math/bits.deBruijn64tab"], apart := false, laid := [("math/bits.deBruijn32tab", laid_math_bits_deBruijn32tab), ("math/bits.deBruijn64tab", laid_math_bits_deBruijn64tab), ("internal/strconv.uint64pow10", laid_internal_strconv_uint64pow10)], narrowed := true }
def InputRangesUptoSaid : Prop := inputRangesUptoRow.holds Tryd.pinned (OpenSpec.upto inputRangesSpec)

/-- 'parquetlaw05.InputLoose', WHERE WHAT IT READS IS OF BULK AT MOST 1048576: true; the input reads as it did. -/
def inputLooseUptoRow : OpenClaim := { program := "ytdpbmkfgolemjaadoor", sum := "6022598a1d5c745b6ab53ec8901f74ca4475fcf0e11753ad0836a80d3ca0dd4e", func := "parquet/parquetlaw05.InputLoose", spec := "inputLoose", inPlace := ["internal/abi.NoEscape", "internal/bytealg.MakeNoZero"], unfollowed := true, recurses := true, named := ["internal/strconv.uint64pow10", "math/bits.deBruijn32tab", "math/bits.deBruijn64tab"], apart := false, laid := [("math/bits.deBruijn32tab", laid_math_bits_deBruijn32tab), ("math/bits.deBruijn64tab", laid_math_bits_deBruijn64tab), ("internal/strconv.uint64pow10", laid_internal_strconv_uint64pow10)], narrowed := true }
def InputLooseUptoSaid : Prop := inputLooseUptoRow.holds Tryd.pinned (OpenSpec.upto inputLooseSpec)

/-- 'parquetlaw05.InputApart', WHERE WHAT IT READS IS OF BULK AT MOST 1048576: true; the input reads as it did. -/
def inputApartUptoRow : OpenClaim := { program := "ytdpbmkfgolemjaadoor", sum := "6022598a1d5c745b6ab53ec8901f74ca4475fcf0e11753ad0836a80d3ca0dd4e", func := "parquet/parquetlaw05.InputApart", spec := "inputApart", inPlace := ["internal/abi.NoEscape", "internal/bytealg.MakeNoZero"], unfollowed := true, recurses := true, named := ["internal/strconv.uint64pow10", "math/bits.deBruijn32tab", "math/bits.deBruijn64tab"], apart := false, laid := [("math/bits.deBruijn32tab", laid_math_bits_deBruijn32tab), ("math/bits.deBruijn64tab", laid_math_bits_deBruijn64tab), ("internal/strconv.uint64pow10", laid_internal_strconv_uint64pow10)], narrowed := true }
def InputApartUptoSaid : Prop := inputApartUptoRow.holds Tryd.pinned (OpenSpec.upto inputApartSpec)

end Rows
end Go.Proofs.YtdpbmkfgolemjaaDoor
