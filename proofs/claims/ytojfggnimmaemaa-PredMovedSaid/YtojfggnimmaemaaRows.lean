/-
  No cell of these rows narrows 'for every input' (looked for: loops, veiled, ifaces, maps, wideKeys, modest, calm, conditions, laid).
  DERIVED. THE GIVEN ROWS OF THIS SEAT. 16 by the template 'for every input the law returns true; each argument reads behind the call as it read before'; 0 by the template 'total and deterministic' (their statements: YtojfggnimmaemaaTotals.lean).
  GIVEN WITH THE SEED: the statements are not yours to turn. If you find one false, say at which input.
  Laid BY PROGRAM, IN A SANDBOX (cutbox-rows.mjs): the forced cells as the released guide's own fill.sh prints them over the translation 6819b2f5170015d7… (all of the seat's roots in one cut). By AI agents, Wed Nov 11 2026. No macro, syntax, notation, axiom, sorry.
-/
import Derived.Test.YtojfggnimmaemaaChecked
import GoSem.Claim
import GoSem.ClaimJoined
import GoSem.ClaimMapViews
import Derived.JoinedTies
import Derived.KernelRfl
namespace Go.Proofs.Ytojfggnimmaemaa
/- THE CELL 'sum', in the pinned program and in every row, IS THE sha256 OF THE DUMP (.gsa) THAT YtojfggnimmaemaaProg.lean LOADS. Nothing in Lean hashes anything: it is a label: what it is worth is what the hold of that sum in a sandbox is worth. -/
noncomputable def Try.pinned : Pinned := { name := "ytojfggnimmaemaa", sum := "6819b2f5170015d775902825f4ecc3b5da8528400caa2106897dc9dfed82980f", checked := Try.checked }
namespace Rows
def none {H : Type} : Left H := { results := [], args := [] }

/-- 'parquetlaw03.PredOrients': WHATEVER THE INPUT: true; the input reads as it did. -/
def predOrientsSpec : ChangeSpec := { name := "predOrients", fn := fun _ => fun
  | [d1, d2, d3] => { results := [.lit (.bool true)], args := [d1, d2, d3] }
  | _ => none }
def predOrientsRow : OpenClaim := { program := "ytojfggnimmaemaa", sum := "6819b2f5170015d775902825f4ecc3b5da8528400caa2106897dc9dfed82980f", func := "parquet/parquetlaw03.PredOrients", spec := "predOrients", inPlace := ["math/bits.Sub64", "math/bits.Add64"], unfollowed := true, recurses := true, apart := false }
def PredOrientsSaid : Prop := predOrientsRow.holds Try.pinned (OpenSpec.ofChange predOrientsSpec)

/-- ITS FALSE NEIGHBOUR: 'it returns false'. Refute it at one input. -/
def predOrientsWrong : ChangeSpec := { name := "predOrients", fn := fun _ => fun
  | [d1, d2, d3] => { results := [.lit (.bool false)], args := [d1, d2, d3] }
  | _ => none }
def PredOrientsWrongFalsely : Prop := predOrientsRow.holds Try.pinned (OpenSpec.ofChange predOrientsWrong)

/-- 'parquetlaw03.PredCircles': WHATEVER THE INPUT: true; the input reads as it did. -/
def predCirclesSpec : ChangeSpec := { name := "predCircles", fn := fun _ => fun
  | [d1, d2, d3, d4] => { results := [.lit (.bool true)], args := [d1, d2, d3, d4] }
  | _ => none }
def predCirclesRow : OpenClaim := { program := "ytojfggnimmaemaa", sum := "6819b2f5170015d775902825f4ecc3b5da8528400caa2106897dc9dfed82980f", func := "parquet/parquetlaw03.PredCircles", spec := "predCircles", inPlace := ["math/bits.Add64", "math/bits.Sub64"], unfollowed := true, recurses := true, apart := false }
def PredCirclesSaid : Prop := predCirclesRow.holds Try.pinned (OpenSpec.ofChange predCirclesSpec)

/-- ITS FALSE NEIGHBOUR: 'it returns false'. Refute it at one input. -/
def predCirclesWrong : ChangeSpec := { name := "predCircles", fn := fun _ => fun
  | [d1, d2, d3, d4] => { results := [.lit (.bool false)], args := [d1, d2, d3, d4] }
  | _ => none }
def PredCirclesWrongFalsely : Prop := predCirclesRow.holds Try.pinned (OpenSpec.ofChange predCirclesWrong)

/-- 'parquetlaw03.PredDiscs': WHATEVER THE INPUT: true; the input reads as it did. -/
def predDiscsSpec : ChangeSpec := { name := "predDiscs", fn := fun _ => fun
  | [d1, d2, d3] => { results := [.lit (.bool true)], args := [d1, d2, d3] }
  | _ => none }
def predDiscsRow : OpenClaim := { program := "ytojfggnimmaemaa", sum := "6819b2f5170015d775902825f4ecc3b5da8528400caa2106897dc9dfed82980f", func := "parquet/parquetlaw03.PredDiscs", spec := "predDiscs", inPlace := ["math/bits.Add64", "math/bits.Sub64"], unfollowed := true, recurses := true, apart := false }
def PredDiscsSaid : Prop := predDiscsRow.holds Try.pinned (OpenSpec.ofChange predDiscsSpec)

/-- ITS FALSE NEIGHBOUR: 'it returns false'. Refute it at one input. -/
def predDiscsWrong : ChangeSpec := { name := "predDiscs", fn := fun _ => fun
  | [d1, d2, d3] => { results := [.lit (.bool false)], args := [d1, d2, d3] }
  | _ => none }
def PredDiscsWrongFalsely : Prop := predDiscsRow.holds Try.pinned (OpenSpec.ofChange predDiscsWrong)

/-- 'parquetlaw03.PredConvexes': WHATEVER THE INPUT: true; the input reads as it did. -/
def predConvexesSpec : ChangeSpec := { name := "predConvexes", fn := fun _ => fun
  | [d1, d2] => { results := [.lit (.bool true)], args := [d1, d2] }
  | _ => none }
def predConvexesRow : OpenClaim := { program := "ytojfggnimmaemaa", sum := "6819b2f5170015d775902825f4ecc3b5da8528400caa2106897dc9dfed82980f", func := "parquet/parquetlaw03.PredConvexes", spec := "predConvexes", inPlace := ["math/bits.Sub64", "math/bits.Add64"], unfollowed := true, recurses := true, apart := false }
def PredConvexesSaid : Prop := predConvexesRow.holds Try.pinned (OpenSpec.ofChange predConvexesSpec)

/-- ITS FALSE NEIGHBOUR: 'it returns false'. Refute it at one input. -/
def predConvexesWrong : ChangeSpec := { name := "predConvexes", fn := fun _ => fun
  | [d1, d2] => { results := [.lit (.bool false)], args := [d1, d2] }
  | _ => none }
def PredConvexesWrongFalsely : Prop := predConvexesRow.holds Try.pinned (OpenSpec.ofChange predConvexesWrong)

/-- 'parquetlaw03.PredSkinny': WHATEVER THE INPUT: true; the input reads as it did. -/
def predSkinnySpec : ChangeSpec := { name := "predSkinny", fn := fun _ => fun
  | [d1, d2, d3] => { results := [.lit (.bool true)], args := [d1, d2, d3] }
  | _ => none }
def predSkinnyRow : OpenClaim := { program := "ytojfggnimmaemaa", sum := "6819b2f5170015d775902825f4ecc3b5da8528400caa2106897dc9dfed82980f", func := "parquet/parquetlaw03.PredSkinny", spec := "predSkinny", inPlace := ["math/bits.Add64", "math/bits.Sub64"], unfollowed := true, recurses := true, apart := false }
def PredSkinnySaid : Prop := predSkinnyRow.holds Try.pinned (OpenSpec.ofChange predSkinnySpec)

/-- ITS FALSE NEIGHBOUR: 'it returns false'. Refute it at one input. -/
def predSkinnyWrong : ChangeSpec := { name := "predSkinny", fn := fun _ => fun
  | [d1, d2, d3] => { results := [.lit (.bool false)], args := [d1, d2, d3] }
  | _ => none }
def PredSkinnyWrongFalsely : Prop := predSkinnyRow.holds Try.pinned (OpenSpec.ofChange predSkinnyWrong)

/-- 'parquetlaw03.PredCentres': WHATEVER THE INPUT: true; the input reads as it did. -/
def predCentresSpec : ChangeSpec := { name := "predCentres", fn := fun _ => fun
  | [d1, d2, d3] => { results := [.lit (.bool true)], args := [d1, d2, d3] }
  | _ => none }
def predCentresRow : OpenClaim := { program := "ytojfggnimmaemaa", sum := "6819b2f5170015d775902825f4ecc3b5da8528400caa2106897dc9dfed82980f", func := "parquet/parquetlaw03.PredCentres", spec := "predCentres", inPlace := ["math/bits.Sub64", "math/bits.Add64"], unfollowed := true, recurses := true, apart := false }
def PredCentresSaid : Prop := predCentresRow.holds Try.pinned (OpenSpec.ofChange predCentresSpec)

/-- ITS FALSE NEIGHBOUR: 'it returns false'. Refute it at one input. -/
def predCentresWrong : ChangeSpec := { name := "predCentres", fn := fun _ => fun
  | [d1, d2, d3] => { results := [.lit (.bool false)], args := [d1, d2, d3] }
  | _ => none }
def PredCentresWrongFalsely : Prop := predCentresRow.holds Try.pinned (OpenSpec.ofChange predCentresWrong)

/-- 'parquetlaw03.PredMoved': WHATEVER THE INPUT: true; the input reads as it did. -/
def predMovedSpec : ChangeSpec := { name := "predMoved", fn := fun _ => fun
  | [d1, d2, d3, d4, d5] => { results := [.lit (.bool true)], args := [d1, d2, d3, d4, d5] }
  | _ => none }
def predMovedRow : OpenClaim := { program := "ytojfggnimmaemaa", sum := "6819b2f5170015d775902825f4ecc3b5da8528400caa2106897dc9dfed82980f", func := "parquet/parquetlaw03.PredMoved", spec := "predMoved", inPlace := ["math/bits.Sub64", "math/bits.Add64"], unfollowed := true, recurses := true, apart := false }
def PredMovedSaid : Prop := predMovedRow.holds Try.pinned (OpenSpec.ofChange predMovedSpec)

/-- ITS FALSE NEIGHBOUR: 'it returns false'. Refute it at one input. -/
def predMovedWrong : ChangeSpec := { name := "predMoved", fn := fun _ => fun
  | [d1, d2, d3, d4, d5] => { results := [.lit (.bool false)], args := [d1, d2, d3, d4, d5] }
  | _ => none }
def PredMovedWrongFalsely : Prop := predMovedRow.holds Try.pinned (OpenSpec.ofChange predMovedWrong)

/-- 'parquetlaw03.PredTells': WHATEVER THE INPUT: true; the input reads as it did. -/
def predTellsSpec : ChangeSpec := { name := "predTells", fn := fun _ => fun
  | [d1, d2, d3] => { results := [.lit (.bool true)], args := [d1, d2, d3] }
  | _ => none }
def predTellsRow : OpenClaim := { program := "ytojfggnimmaemaa", sum := "6819b2f5170015d775902825f4ecc3b5da8528400caa2106897dc9dfed82980f", func := "parquet/parquetlaw03.PredTells", spec := "predTells", inPlace := ["math/bits.Add64", "math/bits.Sub64"], unfollowed := true, recurses := true, apart := false }
def PredTellsSaid : Prop := predTellsRow.holds Try.pinned (OpenSpec.ofChange predTellsSpec)

/-- ITS FALSE NEIGHBOUR: 'it returns false'. Refute it at one input. -/
def predTellsWrong : ChangeSpec := { name := "predTells", fn := fun _ => fun
  | [d1, d2, d3] => { results := [.lit (.bool false)], args := [d1, d2, d3] }
  | _ => none }
def PredTellsWrongFalsely : Prop := predTellsRow.holds Try.pinned (OpenSpec.ofChange predTellsWrong)

/-- 'parquetlaw03.PredRight': WHATEVER THE INPUT: true; the input reads as it did. -/
def predRightSpec : ChangeSpec := { name := "predRight", fn := fun _ => fun
  | [d1, d2, d3] => { results := [.lit (.bool true)], args := [d1, d2, d3] }
  | _ => none }
def predRightRow : OpenClaim := { program := "ytojfggnimmaemaa", sum := "6819b2f5170015d775902825f4ecc3b5da8528400caa2106897dc9dfed82980f", func := "parquet/parquetlaw03.PredRight", spec := "predRight", inPlace := ["math/bits.Sub64", "math/bits.Add64"], unfollowed := true, recurses := true, apart := false }
def PredRightSaid : Prop := predRightRow.holds Try.pinned (OpenSpec.ofChange predRightSpec)

/-- ITS FALSE NEIGHBOUR: 'it returns false'. Refute it at one input. -/
def predRightWrong : ChangeSpec := { name := "predRight", fn := fun _ => fun
  | [d1, d2, d3] => { results := [.lit (.bool false)], args := [d1, d2, d3] }
  | _ => none }
def PredRightWrongFalsely : Prop := predRightRow.holds Try.pinned (OpenSpec.ofChange predRightWrong)

/-- 'parquetlaw04.MeetTells': WHATEVER THE INPUT: true; the input reads as it did. -/
def meetTellsSpec : ChangeSpec := { name := "meetTells", fn := fun _ => fun
  | [d1, d2, d3, d4] => { results := [.lit (.bool true)], args := [d1, d2, d3, d4] }
  | _ => none }
def meetTellsRow : OpenClaim := { program := "ytojfggnimmaemaa", sum := "6819b2f5170015d775902825f4ecc3b5da8528400caa2106897dc9dfed82980f", func := "parquet/parquetlaw04.MeetTells", spec := "meetTells", inPlace := ["math/bits.Sub64", "math/bits.Add64"], apart := false }
def MeetTellsSaid : Prop := meetTellsRow.holds Try.pinned (OpenSpec.ofChange meetTellsSpec)

/-- ITS FALSE NEIGHBOUR: 'it returns false'. Refute it at one input. -/
def meetTellsWrong : ChangeSpec := { name := "meetTells", fn := fun _ => fun
  | [d1, d2, d3, d4] => { results := [.lit (.bool false)], args := [d1, d2, d3, d4] }
  | _ => none }
def MeetTellsWrongFalsely : Prop := meetTellsRow.holds Try.pinned (OpenSpec.ofChange meetTellsWrong)

/-- 'parquetlaw04.MeetOns': WHATEVER THE INPUT: true; the input reads as it did. -/
def meetOnsSpec : ChangeSpec := { name := "meetOns", fn := fun _ => fun
  | [d1, d2, d3] => { results := [.lit (.bool true)], args := [d1, d2, d3] }
  | _ => none }
def meetOnsRow : OpenClaim := { program := "ytojfggnimmaemaa", sum := "6819b2f5170015d775902825f4ecc3b5da8528400caa2106897dc9dfed82980f", func := "parquet/parquetlaw04.MeetOns", spec := "meetOns", inPlace := ["math/bits.Sub64", "math/bits.Add64"], apart := false }
def MeetOnsSaid : Prop := meetOnsRow.holds Try.pinned (OpenSpec.ofChange meetOnsSpec)

/-- ITS FALSE NEIGHBOUR: 'it returns false'. Refute it at one input. -/
def meetOnsWrong : ChangeSpec := { name := "meetOns", fn := fun _ => fun
  | [d1, d2, d3] => { results := [.lit (.bool false)], args := [d1, d2, d3] }
  | _ => none }
def MeetOnsWrongFalsely : Prop := meetOnsRow.holds Try.pinned (OpenSpec.ofChange meetOnsWrong)

/-- 'parquetlaw04.MeetFirsts': WHATEVER THE INPUT: true; the input reads as it did. -/
def meetFirstsSpec : ChangeSpec := { name := "meetFirsts", fn := fun _ => fun
  | [d] => { results := [.lit (.bool true)], args := [d] }
  | _ => none }
def meetFirstsRow : OpenClaim := { program := "ytojfggnimmaemaa", sum := "6819b2f5170015d775902825f4ecc3b5da8528400caa2106897dc9dfed82980f", func := "parquet/parquetlaw04.MeetFirsts", spec := "meetFirsts", inPlace := ["math/bits.Sub64", "math/bits.Add64"], apart := false }
def MeetFirstsSaid : Prop := meetFirstsRow.holds Try.pinned (OpenSpec.ofChange meetFirstsSpec)

/-- ITS FALSE NEIGHBOUR: 'it returns false'. Refute it at one input. -/
def meetFirstsWrong : ChangeSpec := { name := "meetFirsts", fn := fun _ => fun
  | [d] => { results := [.lit (.bool false)], args := [d] }
  | _ => none }
def MeetFirstsWrongFalsely : Prop := meetFirstsRow.holds Try.pinned (OpenSpec.ofChange meetFirstsWrong)

/-- 'parquetlaw04.MeetEnds': WHATEVER THE INPUT: true; the input reads as it did. -/
def meetEndsSpec : ChangeSpec := { name := "meetEnds", fn := fun _ => fun
  | [d1, d2, d3, d4] => { results := [.lit (.bool true)], args := [d1, d2, d3, d4] }
  | _ => none }
def meetEndsRow : OpenClaim := { program := "ytojfggnimmaemaa", sum := "6819b2f5170015d775902825f4ecc3b5da8528400caa2106897dc9dfed82980f", func := "parquet/parquetlaw04.MeetEnds", spec := "meetEnds", inPlace := ["math/bits.Sub64", "math/bits.Add64"], apart := false }
def MeetEndsSaid : Prop := meetEndsRow.holds Try.pinned (OpenSpec.ofChange meetEndsSpec)

/-- ITS FALSE NEIGHBOUR: 'it returns false'. Refute it at one input. -/
def meetEndsWrong : ChangeSpec := { name := "meetEnds", fn := fun _ => fun
  | [d1, d2, d3, d4] => { results := [.lit (.bool false)], args := [d1, d2, d3, d4] }
  | _ => none }
def MeetEndsWrongFalsely : Prop := meetEndsRow.holds Try.pinned (OpenSpec.ofChange meetEndsWrong)

/-- 'parquetlaw04.MeetParts': WHATEVER THE INPUT: true; the input reads as it did. -/
def meetPartsSpec : ChangeSpec := { name := "meetParts", fn := fun _ => fun
  | [d1, d2, d3, d4, d5] => { results := [.lit (.bool true)], args := [d1, d2, d3, d4, d5] }
  | _ => none }
def meetPartsRow : OpenClaim := { program := "ytojfggnimmaemaa", sum := "6819b2f5170015d775902825f4ecc3b5da8528400caa2106897dc9dfed82980f", func := "parquet/parquetlaw04.MeetParts", spec := "meetParts", inPlace := ["math/bits.Sub64", "math/bits.Add64"], apart := false }
def MeetPartsSaid : Prop := meetPartsRow.holds Try.pinned (OpenSpec.ofChange meetPartsSpec)

/-- ITS FALSE NEIGHBOUR: 'it returns false'. Refute it at one input. -/
def meetPartsWrong : ChangeSpec := { name := "meetParts", fn := fun _ => fun
  | [d1, d2, d3, d4, d5] => { results := [.lit (.bool false)], args := [d1, d2, d3, d4, d5] }
  | _ => none }
def MeetPartsWrongFalsely : Prop := meetPartsRow.holds Try.pinned (OpenSpec.ofChange meetPartsWrong)

/-- 'parquetlaw04.MeetMoved': WHATEVER THE INPUT: true; the input reads as it did. -/
def meetMovedSpec : ChangeSpec := { name := "meetMoved", fn := fun _ => fun
  | [d1, d2, d3, d4, d5] => { results := [.lit (.bool true)], args := [d1, d2, d3, d4, d5] }
  | _ => none }
def meetMovedRow : OpenClaim := { program := "ytojfggnimmaemaa", sum := "6819b2f5170015d775902825f4ecc3b5da8528400caa2106897dc9dfed82980f", func := "parquet/parquetlaw04.MeetMoved", spec := "meetMoved", inPlace := ["math/bits.Sub64", "math/bits.Add64"], apart := false }
def MeetMovedSaid : Prop := meetMovedRow.holds Try.pinned (OpenSpec.ofChange meetMovedSpec)

/-- ITS FALSE NEIGHBOUR: 'it returns false'. Refute it at one input. -/
def meetMovedWrong : ChangeSpec := { name := "meetMoved", fn := fun _ => fun
  | [d1, d2, d3, d4, d5] => { results := [.lit (.bool false)], args := [d1, d2, d3, d4, d5] }
  | _ => none }
def MeetMovedWrongFalsely : Prop := meetMovedRow.holds Try.pinned (OpenSpec.ofChange meetMovedWrong)

/-- 'parquetlaw04.MeetFan': WHATEVER THE INPUT: true; the input reads as it did. -/
def meetFanSpec : ChangeSpec := { name := "meetFan", fn := fun _ => fun
  | [d1, d2, d3] => { results := [.lit (.bool true)], args := [d1, d2, d3] }
  | _ => none }
def meetFanRow : OpenClaim := { program := "ytojfggnimmaemaa", sum := "6819b2f5170015d775902825f4ecc3b5da8528400caa2106897dc9dfed82980f", func := "parquet/parquetlaw04.MeetFan", spec := "meetFan", inPlace := ["math/bits.Sub64", "math/bits.Add64"], apart := false }
def MeetFanSaid : Prop := meetFanRow.holds Try.pinned (OpenSpec.ofChange meetFanSpec)

/-- ITS FALSE NEIGHBOUR: 'it returns false'. Refute it at one input. -/
def meetFanWrong : ChangeSpec := { name := "meetFan", fn := fun _ => fun
  | [d1, d2, d3] => { results := [.lit (.bool false)], args := [d1, d2, d3] }
  | _ => none }
def MeetFanWrongFalsely : Prop := meetFanRow.holds Try.pinned (OpenSpec.ofChange meetFanWrong)

/- THE SECOND FORM. 'bulk': how many values and letters a reading holds, each counted each time it is reached (what is shared counts as often as it is met; a slice's spare places count too). A statement '..UptoSaid' is the law's where the arguments, and the package variables that the reading takes, are together of bulk at most 1048576: NARROWER than '..Said'. Prove '..Said' where nothing that the law and all that it calls make is longer than what came in: it says more and counts as full. Else prove '..UptoSaid'. A law counts once. -/
mutual
def uptoBulk {H : Type} : DataW H → Nat
  | .lit (.string bytes) => bytes.length + 1
  | .lit _ => 1
  | .nil => 1
  | .ptr d => uptoBulk d + 1
  | .slice elems spare => uptoBulkAll elems + uptoBulkAll spare + 1
  | .agg parts => uptoBulkAll parts + 1
  | .iface _ d => uptoBulk d + 1
  | .map entries => uptoBulkEntries entries + 1
  | .held _ => 1
def uptoBulkAll {H : Type} : List (DataW H) → Nat
  | [] => 0
  | d :: r => uptoBulk d + uptoBulkAll r
def uptoBulkEntries {H : Type} : List (Lit × DataW H) → Nat
  | [] => 0
  | x :: r => uptoBulkEntry x + uptoBulkEntries r
def uptoBulkEntry {H : Type} : Lit × DataW H → Nat
  | (.string bytes, d) => bytes.length + uptoBulk d + 1
  | (_, d) => uptoBulk d + 1
 end
def uptoSmall : (H : Type) → List (DataW H) → Bool := fun _ ds => decide (uptoBulkAll ds ≤ 1048576)
def OpenSpec.upto (s : _root_.Go.ChangeSpec) : _root_.Go.OpenSpec := { _root_.Go.OpenSpec.ofChange s with cond := some uptoSmall }

/-- 'parquetlaw03.PredOrients', WHERE WHAT IT READS IS OF BULK AT MOST 1048576: true; the input reads as it did. -/
def predOrientsUptoRow : OpenClaim := { program := "ytojfggnimmaemaa", sum := "6819b2f5170015d775902825f4ecc3b5da8528400caa2106897dc9dfed82980f", func := "parquet/parquetlaw03.PredOrients", spec := "predOrients", inPlace := ["math/bits.Sub64", "math/bits.Add64"], unfollowed := true, recurses := true, apart := false, narrowed := true }
def PredOrientsUptoSaid : Prop := predOrientsUptoRow.holds Try.pinned (OpenSpec.upto predOrientsSpec)

/-- 'parquetlaw03.PredCircles', WHERE WHAT IT READS IS OF BULK AT MOST 1048576: true; the input reads as it did. -/
def predCirclesUptoRow : OpenClaim := { program := "ytojfggnimmaemaa", sum := "6819b2f5170015d775902825f4ecc3b5da8528400caa2106897dc9dfed82980f", func := "parquet/parquetlaw03.PredCircles", spec := "predCircles", inPlace := ["math/bits.Add64", "math/bits.Sub64"], unfollowed := true, recurses := true, apart := false, narrowed := true }
def PredCirclesUptoSaid : Prop := predCirclesUptoRow.holds Try.pinned (OpenSpec.upto predCirclesSpec)

/-- 'parquetlaw03.PredDiscs', WHERE WHAT IT READS IS OF BULK AT MOST 1048576: true; the input reads as it did. -/
def predDiscsUptoRow : OpenClaim := { program := "ytojfggnimmaemaa", sum := "6819b2f5170015d775902825f4ecc3b5da8528400caa2106897dc9dfed82980f", func := "parquet/parquetlaw03.PredDiscs", spec := "predDiscs", inPlace := ["math/bits.Add64", "math/bits.Sub64"], unfollowed := true, recurses := true, apart := false, narrowed := true }
def PredDiscsUptoSaid : Prop := predDiscsUptoRow.holds Try.pinned (OpenSpec.upto predDiscsSpec)

/-- 'parquetlaw03.PredConvexes', WHERE WHAT IT READS IS OF BULK AT MOST 1048576: true; the input reads as it did. -/
def predConvexesUptoRow : OpenClaim := { program := "ytojfggnimmaemaa", sum := "6819b2f5170015d775902825f4ecc3b5da8528400caa2106897dc9dfed82980f", func := "parquet/parquetlaw03.PredConvexes", spec := "predConvexes", inPlace := ["math/bits.Sub64", "math/bits.Add64"], unfollowed := true, recurses := true, apart := false, narrowed := true }
def PredConvexesUptoSaid : Prop := predConvexesUptoRow.holds Try.pinned (OpenSpec.upto predConvexesSpec)

/-- 'parquetlaw03.PredSkinny', WHERE WHAT IT READS IS OF BULK AT MOST 1048576: true; the input reads as it did. -/
def predSkinnyUptoRow : OpenClaim := { program := "ytojfggnimmaemaa", sum := "6819b2f5170015d775902825f4ecc3b5da8528400caa2106897dc9dfed82980f", func := "parquet/parquetlaw03.PredSkinny", spec := "predSkinny", inPlace := ["math/bits.Add64", "math/bits.Sub64"], unfollowed := true, recurses := true, apart := false, narrowed := true }
def PredSkinnyUptoSaid : Prop := predSkinnyUptoRow.holds Try.pinned (OpenSpec.upto predSkinnySpec)

/-- 'parquetlaw03.PredCentres', WHERE WHAT IT READS IS OF BULK AT MOST 1048576: true; the input reads as it did. -/
def predCentresUptoRow : OpenClaim := { program := "ytojfggnimmaemaa", sum := "6819b2f5170015d775902825f4ecc3b5da8528400caa2106897dc9dfed82980f", func := "parquet/parquetlaw03.PredCentres", spec := "predCentres", inPlace := ["math/bits.Sub64", "math/bits.Add64"], unfollowed := true, recurses := true, apart := false, narrowed := true }
def PredCentresUptoSaid : Prop := predCentresUptoRow.holds Try.pinned (OpenSpec.upto predCentresSpec)

/-- 'parquetlaw03.PredMoved', WHERE WHAT IT READS IS OF BULK AT MOST 1048576: true; the input reads as it did. -/
def predMovedUptoRow : OpenClaim := { program := "ytojfggnimmaemaa", sum := "6819b2f5170015d775902825f4ecc3b5da8528400caa2106897dc9dfed82980f", func := "parquet/parquetlaw03.PredMoved", spec := "predMoved", inPlace := ["math/bits.Sub64", "math/bits.Add64"], unfollowed := true, recurses := true, apart := false, narrowed := true }
def PredMovedUptoSaid : Prop := predMovedUptoRow.holds Try.pinned (OpenSpec.upto predMovedSpec)

/-- 'parquetlaw03.PredTells', WHERE WHAT IT READS IS OF BULK AT MOST 1048576: true; the input reads as it did. -/
def predTellsUptoRow : OpenClaim := { program := "ytojfggnimmaemaa", sum := "6819b2f5170015d775902825f4ecc3b5da8528400caa2106897dc9dfed82980f", func := "parquet/parquetlaw03.PredTells", spec := "predTells", inPlace := ["math/bits.Add64", "math/bits.Sub64"], unfollowed := true, recurses := true, apart := false, narrowed := true }
def PredTellsUptoSaid : Prop := predTellsUptoRow.holds Try.pinned (OpenSpec.upto predTellsSpec)

/-- 'parquetlaw03.PredRight', WHERE WHAT IT READS IS OF BULK AT MOST 1048576: true; the input reads as it did. -/
def predRightUptoRow : OpenClaim := { program := "ytojfggnimmaemaa", sum := "6819b2f5170015d775902825f4ecc3b5da8528400caa2106897dc9dfed82980f", func := "parquet/parquetlaw03.PredRight", spec := "predRight", inPlace := ["math/bits.Sub64", "math/bits.Add64"], unfollowed := true, recurses := true, apart := false, narrowed := true }
def PredRightUptoSaid : Prop := predRightUptoRow.holds Try.pinned (OpenSpec.upto predRightSpec)

/-- 'parquetlaw04.MeetTells', WHERE WHAT IT READS IS OF BULK AT MOST 1048576: true; the input reads as it did. -/
def meetTellsUptoRow : OpenClaim := { program := "ytojfggnimmaemaa", sum := "6819b2f5170015d775902825f4ecc3b5da8528400caa2106897dc9dfed82980f", func := "parquet/parquetlaw04.MeetTells", spec := "meetTells", inPlace := ["math/bits.Sub64", "math/bits.Add64"], apart := false, narrowed := true }
def MeetTellsUptoSaid : Prop := meetTellsUptoRow.holds Try.pinned (OpenSpec.upto meetTellsSpec)

/-- 'parquetlaw04.MeetOns', WHERE WHAT IT READS IS OF BULK AT MOST 1048576: true; the input reads as it did. -/
def meetOnsUptoRow : OpenClaim := { program := "ytojfggnimmaemaa", sum := "6819b2f5170015d775902825f4ecc3b5da8528400caa2106897dc9dfed82980f", func := "parquet/parquetlaw04.MeetOns", spec := "meetOns", inPlace := ["math/bits.Sub64", "math/bits.Add64"], apart := false, narrowed := true }
def MeetOnsUptoSaid : Prop := meetOnsUptoRow.holds Try.pinned (OpenSpec.upto meetOnsSpec)

/-- 'parquetlaw04.MeetFirsts', WHERE WHAT IT READS IS OF BULK AT MOST 1048576: true; the input reads as it did. -/
def meetFirstsUptoRow : OpenClaim := { program := "ytojfggnimmaemaa", sum := "6819b2f5170015d775902825f4ecc3b5da8528400caa2106897dc9dfed82980f", func := "parquet/parquetlaw04.MeetFirsts", spec := "meetFirsts", inPlace := ["math/bits.Sub64", "math/bits.Add64"], apart := false, narrowed := true }
def MeetFirstsUptoSaid : Prop := meetFirstsUptoRow.holds Try.pinned (OpenSpec.upto meetFirstsSpec)

/-- 'parquetlaw04.MeetEnds', WHERE WHAT IT READS IS OF BULK AT MOST 1048576: true; the input reads as it did. -/
def meetEndsUptoRow : OpenClaim := { program := "ytojfggnimmaemaa", sum := "6819b2f5170015d775902825f4ecc3b5da8528400caa2106897dc9dfed82980f", func := "parquet/parquetlaw04.MeetEnds", spec := "meetEnds", inPlace := ["math/bits.Sub64", "math/bits.Add64"], apart := false, narrowed := true }
def MeetEndsUptoSaid : Prop := meetEndsUptoRow.holds Try.pinned (OpenSpec.upto meetEndsSpec)

/-- 'parquetlaw04.MeetParts', WHERE WHAT IT READS IS OF BULK AT MOST 1048576: true; the input reads as it did. -/
def meetPartsUptoRow : OpenClaim := { program := "ytojfggnimmaemaa", sum := "6819b2f5170015d775902825f4ecc3b5da8528400caa2106897dc9dfed82980f", func := "parquet/parquetlaw04.MeetParts", spec := "meetParts", inPlace := ["math/bits.Sub64", "math/bits.Add64"], apart := false, narrowed := true }
def MeetPartsUptoSaid : Prop := meetPartsUptoRow.holds Try.pinned (OpenSpec.upto meetPartsSpec)

/-- 'parquetlaw04.MeetMoved', WHERE WHAT IT READS IS OF BULK AT MOST 1048576: true; the input reads as it did. -/
def meetMovedUptoRow : OpenClaim := { program := "ytojfggnimmaemaa", sum := "6819b2f5170015d775902825f4ecc3b5da8528400caa2106897dc9dfed82980f", func := "parquet/parquetlaw04.MeetMoved", spec := "meetMoved", inPlace := ["math/bits.Sub64", "math/bits.Add64"], apart := false, narrowed := true }
def MeetMovedUptoSaid : Prop := meetMovedUptoRow.holds Try.pinned (OpenSpec.upto meetMovedSpec)

/-- 'parquetlaw04.MeetFan', WHERE WHAT IT READS IS OF BULK AT MOST 1048576: true; the input reads as it did. -/
def meetFanUptoRow : OpenClaim := { program := "ytojfggnimmaemaa", sum := "6819b2f5170015d775902825f4ecc3b5da8528400caa2106897dc9dfed82980f", func := "parquet/parquetlaw04.MeetFan", spec := "meetFan", inPlace := ["math/bits.Sub64", "math/bits.Add64"], apart := false, narrowed := true }
def MeetFanUptoSaid : Prop := meetFanUptoRow.holds Try.pinned (OpenSpec.upto meetFanSpec)

end Rows
end Go.Proofs.Ytojfggnimmaemaa
