/-
  No cell of these rows narrows 'for every input' (looked for: loops, veiled, ifaces, maps, wideKeys, modest, calm, conditions, laid).
  DERIVED. THE GIVEN ROWS OF THIS SEAT. 7 by the template 'for every input the law returns true; each argument reads behind the call as it read before'; 0 by the template 'total and deterministic' (their statements: YtpockemjfbaheaaTotals.lean).
  GIVEN WITH THE SEED: the statements are not yours to turn. If you find one false, say at which input.
  Laid BY PROGRAM, IN A SANDBOX (cutbox-rows.mjs): the forced cells as the released guide's own fill.sh prints them over the translation 70b163d519c7c885… (all of the seat's roots in one cut). By AI agents, Wed Nov 11 2026. No macro, syntax, notation, axiom, sorry.
-/
import Derived.Test.YtpockemjfbaheaaChecked
import GoSem.Claim
import GoSem.ClaimJoined
import GoSem.ClaimMapViews
import Derived.JoinedTies
import Derived.KernelRfl
namespace Go.Proofs.Ytpockemjfbaheaa
/- THE CELL 'sum', in the pinned program and in every row, IS THE sha256 OF THE DUMP (.gsa) THAT YtpockemjfbaheaaProg.lean LOADS. Nothing in Lean hashes anything: it is a label: what it is worth is what the hold of that sum in a sandbox is worth. -/
noncomputable def Try.pinned : Pinned := { name := "ytpockemjfbaheaa", sum := "70b163d519c7c885df603112400ae94f160f36946c0b5dca381165748c7eb9cf", checked := Try.checked }
namespace Rows
def none {H : Type} : Left H := { results := [], args := [] }

/-- 'parquetlaw08.RingsFinds': WHATEVER THE INPUT: true; the input reads as it did. -/
def ringsFindsSpec : ChangeSpec := { name := "ringsFinds", fn := fun _ => fun
  | [d1, d2] => { results := [.lit (.bool true)], args := [d1, d2] }
  | _ => none }
def ringsFindsRow : OpenClaim := { program := "ytpockemjfbaheaa", sum := "70b163d519c7c885df603112400ae94f160f36946c0b5dca381165748c7eb9cf", func := "parquet/parquetlaw08.RingsFinds", spec := "ringsFinds", inPlace := ["math/bits.Add64", "math/bits.Sub64"], unfollowed := true, recurses := true, plainKeys := false, apart := false }
def RingsFindsSaid : Prop := ringsFindsRow.holds Try.pinned (OpenSpec.ofChange ringsFindsSpec)

/-- ITS FALSE NEIGHBOUR: 'it returns false'. Refute it at one input. -/
def ringsFindsWrong : ChangeSpec := { name := "ringsFinds", fn := fun _ => fun
  | [d1, d2] => { results := [.lit (.bool false)], args := [d1, d2] }
  | _ => none }
def RingsFindsWrongFalsely : Prop := ringsFindsRow.holds Try.pinned (OpenSpec.ofChange ringsFindsWrong)

/-- 'parquetlaw08.RingsAreas': WHATEVER THE INPUT: true; the input reads as it did. -/
def ringsAreasSpec : ChangeSpec := { name := "ringsAreas", fn := fun _ => fun
  | [d1, d2, d3] => { results := [.lit (.bool true)], args := [d1, d2, d3] }
  | _ => none }
def ringsAreasRow : OpenClaim := { program := "ytpockemjfbaheaa", sum := "70b163d519c7c885df603112400ae94f160f36946c0b5dca381165748c7eb9cf", func := "parquet/parquetlaw08.RingsAreas", spec := "ringsAreas", inPlace := ["math/bits.Add64", "math/bits.Sub64"], unfollowed := true, recurses := true, plainKeys := false, apart := false }
def RingsAreasSaid : Prop := ringsAreasRow.holds Try.pinned (OpenSpec.ofChange ringsAreasSpec)

/-- ITS FALSE NEIGHBOUR: 'it returns false'. Refute it at one input. -/
def ringsAreasWrong : ChangeSpec := { name := "ringsAreas", fn := fun _ => fun
  | [d1, d2, d3] => { results := [.lit (.bool false)], args := [d1, d2, d3] }
  | _ => none }
def RingsAreasWrongFalsely : Prop := ringsAreasRow.holds Try.pinned (OpenSpec.ofChange ringsAreasWrong)

/-- 'parquetlaw08.RingsBack': WHATEVER THE INPUT: true; the input reads as it did. -/
def ringsBackSpec : ChangeSpec := { name := "ringsBack", fn := fun _ => fun
  | [d1, d2] => { results := [.lit (.bool true)], args := [d1, d2] }
  | _ => none }
def ringsBackRow : OpenClaim := { program := "ytpockemjfbaheaa", sum := "70b163d519c7c885df603112400ae94f160f36946c0b5dca381165748c7eb9cf", func := "parquet/parquetlaw08.RingsBack", spec := "ringsBack", inPlace := ["math/bits.Add64", "math/bits.Sub64"], unfollowed := true, recurses := true, plainKeys := false, apart := false }
def RingsBackSaid : Prop := ringsBackRow.holds Try.pinned (OpenSpec.ofChange ringsBackSpec)

/-- ITS FALSE NEIGHBOUR: 'it returns false'. Refute it at one input. -/
def ringsBackWrong : ChangeSpec := { name := "ringsBack", fn := fun _ => fun
  | [d1, d2] => { results := [.lit (.bool false)], args := [d1, d2] }
  | _ => none }
def RingsBackWrongFalsely : Prop := ringsBackRow.holds Try.pinned (OpenSpec.ofChange ringsBackWrong)

/-- 'parquetlaw08.RingsOrder': WHATEVER THE INPUT: true; the input reads as it did. -/
def ringsOrderSpec : ChangeSpec := { name := "ringsOrder", fn := fun _ => fun
  | [d1, d2, d3, d4] => { results := [.lit (.bool true)], args := [d1, d2, d3, d4] }
  | _ => none }
def ringsOrderRow : OpenClaim := { program := "ytpockemjfbaheaa", sum := "70b163d519c7c885df603112400ae94f160f36946c0b5dca381165748c7eb9cf", func := "parquet/parquetlaw08.RingsOrder", spec := "ringsOrder", inPlace := ["math/bits.Add64", "math/bits.Sub64"], unfollowed := true, recurses := true, plainKeys := false, apart := false }
def RingsOrderSaid : Prop := ringsOrderRow.holds Try.pinned (OpenSpec.ofChange ringsOrderSpec)

/-- ITS FALSE NEIGHBOUR: 'it returns false'. Refute it at one input. -/
def ringsOrderWrong : ChangeSpec := { name := "ringsOrder", fn := fun _ => fun
  | [d1, d2, d3, d4] => { results := [.lit (.bool false)], args := [d1, d2, d3, d4] }
  | _ => none }
def RingsOrderWrongFalsely : Prop := ringsOrderRow.holds Try.pinned (OpenSpec.ofChange ringsOrderWrong)

/-- 'parquetlaw08.RingsRound': WHATEVER THE INPUT: true; the input reads as it did. -/
def ringsRoundSpec : ChangeSpec := { name := "ringsRound", fn := fun _ => fun
  | [d1, d2] => { results := [.lit (.bool true)], args := [d1, d2] }
  | _ => none }
def ringsRoundRow : OpenClaim := { program := "ytpockemjfbaheaa", sum := "70b163d519c7c885df603112400ae94f160f36946c0b5dca381165748c7eb9cf", func := "parquet/parquetlaw08.RingsRound", spec := "ringsRound", inPlace := ["math/bits.Add64", "math/bits.Sub64"], unfollowed := true, recurses := true, plainKeys := false, apart := false }
def RingsRoundSaid : Prop := ringsRoundRow.holds Try.pinned (OpenSpec.ofChange ringsRoundSpec)

/-- ITS FALSE NEIGHBOUR: 'it returns false'. Refute it at one input. -/
def ringsRoundWrong : ChangeSpec := { name := "ringsRound", fn := fun _ => fun
  | [d1, d2] => { results := [.lit (.bool false)], args := [d1, d2] }
  | _ => none }
def RingsRoundWrongFalsely : Prop := ringsRoundRow.holds Try.pinned (OpenSpec.ofChange ringsRoundWrong)

/-- 'parquetlaw08.RingsBad': WHATEVER THE INPUT: true; the input reads as it did. -/
def ringsBadSpec : ChangeSpec := { name := "ringsBad", fn := fun _ => fun
  | [d1, d2, d3, d4] => { results := [.lit (.bool true)], args := [d1, d2, d3, d4] }
  | _ => none }
def ringsBadRow : OpenClaim := { program := "ytpockemjfbaheaa", sum := "70b163d519c7c885df603112400ae94f160f36946c0b5dca381165748c7eb9cf", func := "parquet/parquetlaw08.RingsBad", spec := "ringsBad", inPlace := ["math/bits.Add64", "math/bits.Sub64"], unfollowed := true, recurses := true, plainKeys := false, apart := false }
def RingsBadSaid : Prop := ringsBadRow.holds Try.pinned (OpenSpec.ofChange ringsBadSpec)

/-- ITS FALSE NEIGHBOUR: 'it returns false'. Refute it at one input. -/
def ringsBadWrong : ChangeSpec := { name := "ringsBad", fn := fun _ => fun
  | [d1, d2, d3, d4] => { results := [.lit (.bool false)], args := [d1, d2, d3, d4] }
  | _ => none }
def RingsBadWrongFalsely : Prop := ringsBadRow.holds Try.pinned (OpenSpec.ofChange ringsBadWrong)

/-- 'parquetlaw08.RingsJoin': WHATEVER THE INPUT: true; the input reads as it did. -/
def ringsJoinSpec : ChangeSpec := { name := "ringsJoin", fn := fun _ => fun
  | [d1, d2, d3, d4] => { results := [.lit (.bool true)], args := [d1, d2, d3, d4] }
  | _ => none }
def ringsJoinRow : OpenClaim := { program := "ytpockemjfbaheaa", sum := "70b163d519c7c885df603112400ae94f160f36946c0b5dca381165748c7eb9cf", func := "parquet/parquetlaw08.RingsJoin", spec := "ringsJoin", inPlace := ["math/bits.Add64", "math/bits.Sub64"], unfollowed := true, recurses := true, plainKeys := false, apart := false }
def RingsJoinSaid : Prop := ringsJoinRow.holds Try.pinned (OpenSpec.ofChange ringsJoinSpec)

/-- ITS FALSE NEIGHBOUR: 'it returns false'. Refute it at one input. -/
def ringsJoinWrong : ChangeSpec := { name := "ringsJoin", fn := fun _ => fun
  | [d1, d2, d3, d4] => { results := [.lit (.bool false)], args := [d1, d2, d3, d4] }
  | _ => none }
def RingsJoinWrongFalsely : Prop := ringsJoinRow.holds Try.pinned (OpenSpec.ofChange ringsJoinWrong)

/- THE SECOND FORM. 'bulk': how many values and letters a reading holds, each counted each time it is reached (what is shared counts as often as it is met; a slice's spare places count too). A statement '..UptoSaid' is the law's where the arguments, and the package variables that the reading takes, are together of bulk at most 1048576: NARROWER than '..Said'. Prove '..Said' where nothing that the law and all that it calls make is longer than what came in: it says more and counts as full. Else prove '..UptoSaid'. A law counts once. -/
mutual
def uptoBulk {H : Type} : DataW H → Nat
  | .lit (.string bytes) => bytes.length + 1
  | .lit _ => 1
  | .nil => 1
  | .ptr d => uptoBulk d + 1
  | .slice elems spare => uptoBulkAll elems + uptoBulkAll spare + 1
  | .agg parts => uptoBulkAll parts + 1
  | .iface _ d => uptoBulk d + 1
  | .map entries => uptoBulkEntries entries + 1
  | .held _ => 1
def uptoBulkAll {H : Type} : List (DataW H) → Nat
  | [] => 0
  | d :: r => uptoBulk d + uptoBulkAll r
def uptoBulkEntries {H : Type} : List (Lit × DataW H) → Nat
  | [] => 0
  | x :: r => uptoBulkEntry x + uptoBulkEntries r
def uptoBulkEntry {H : Type} : Lit × DataW H → Nat
  | (.string bytes, d) => bytes.length + uptoBulk d + 1
  | (_, d) => uptoBulk d + 1
 end
def uptoSmall : (H : Type) → List (DataW H) → Bool := fun _ ds => decide (uptoBulkAll ds ≤ 1048576)
def OpenSpec.upto (s : _root_.Go.ChangeSpec) : _root_.Go.OpenSpec := { _root_.Go.OpenSpec.ofChange s with cond := some uptoSmall }

/-- 'parquetlaw08.RingsFinds', WHERE WHAT IT READS IS OF BULK AT MOST 1048576: true; the input reads as it did. -/
def ringsFindsUptoRow : OpenClaim := { program := "ytpockemjfbaheaa", sum := "70b163d519c7c885df603112400ae94f160f36946c0b5dca381165748c7eb9cf", func := "parquet/parquetlaw08.RingsFinds", spec := "ringsFinds", inPlace := ["math/bits.Add64", "math/bits.Sub64"], unfollowed := true, recurses := true, plainKeys := false, apart := false, narrowed := true }
def RingsFindsUptoSaid : Prop := ringsFindsUptoRow.holds Try.pinned (OpenSpec.upto ringsFindsSpec)

/-- 'parquetlaw08.RingsAreas', WHERE WHAT IT READS IS OF BULK AT MOST 1048576: true; the input reads as it did. -/
def ringsAreasUptoRow : OpenClaim := { program := "ytpockemjfbaheaa", sum := "70b163d519c7c885df603112400ae94f160f36946c0b5dca381165748c7eb9cf", func := "parquet/parquetlaw08.RingsAreas", spec := "ringsAreas", inPlace := ["math/bits.Add64", "math/bits.Sub64"], unfollowed := true, recurses := true, plainKeys := false, apart := false, narrowed := true }
def RingsAreasUptoSaid : Prop := ringsAreasUptoRow.holds Try.pinned (OpenSpec.upto ringsAreasSpec)

/-- 'parquetlaw08.RingsBack', WHERE WHAT IT READS IS OF BULK AT MOST 1048576: true; the input reads as it did. -/
def ringsBackUptoRow : OpenClaim := { program := "ytpockemjfbaheaa", sum := "70b163d519c7c885df603112400ae94f160f36946c0b5dca381165748c7eb9cf", func := "parquet/parquetlaw08.RingsBack", spec := "ringsBack", inPlace := ["math/bits.Add64", "math/bits.Sub64"], unfollowed := true, recurses := true, plainKeys := false, apart := false, narrowed := true }
def RingsBackUptoSaid : Prop := ringsBackUptoRow.holds Try.pinned (OpenSpec.upto ringsBackSpec)

/-- 'parquetlaw08.RingsOrder', WHERE WHAT IT READS IS OF BULK AT MOST 1048576: true; the input reads as it did. -/
def ringsOrderUptoRow : OpenClaim := { program := "ytpockemjfbaheaa", sum := "70b163d519c7c885df603112400ae94f160f36946c0b5dca381165748c7eb9cf", func := "parquet/parquetlaw08.RingsOrder", spec := "ringsOrder", inPlace := ["math/bits.Add64", "math/bits.Sub64"], unfollowed := true, recurses := true, plainKeys := false, apart := false, narrowed := true }
def RingsOrderUptoSaid : Prop := ringsOrderUptoRow.holds Try.pinned (OpenSpec.upto ringsOrderSpec)

/-- 'parquetlaw08.RingsRound', WHERE WHAT IT READS IS OF BULK AT MOST 1048576: true; the input reads as it did. -/
def ringsRoundUptoRow : OpenClaim := { program := "ytpockemjfbaheaa", sum := "70b163d519c7c885df603112400ae94f160f36946c0b5dca381165748c7eb9cf", func := "parquet/parquetlaw08.RingsRound", spec := "ringsRound", inPlace := ["math/bits.Add64", "math/bits.Sub64"], unfollowed := true, recurses := true, plainKeys := false, apart := false, narrowed := true }
def RingsRoundUptoSaid : Prop := ringsRoundUptoRow.holds Try.pinned (OpenSpec.upto ringsRoundSpec)

/-- 'parquetlaw08.RingsBad', WHERE WHAT IT READS IS OF BULK AT MOST 1048576: true; the input reads as it did. -/
def ringsBadUptoRow : OpenClaim := { program := "ytpockemjfbaheaa", sum := "70b163d519c7c885df603112400ae94f160f36946c0b5dca381165748c7eb9cf", func := "parquet/parquetlaw08.RingsBad", spec := "ringsBad", inPlace := ["math/bits.Add64", "math/bits.Sub64"], unfollowed := true, recurses := true, plainKeys := false, apart := false, narrowed := true }
def RingsBadUptoSaid : Prop := ringsBadUptoRow.holds Try.pinned (OpenSpec.upto ringsBadSpec)

/-- 'parquetlaw08.RingsJoin', WHERE WHAT IT READS IS OF BULK AT MOST 1048576: true; the input reads as it did. -/
def ringsJoinUptoRow : OpenClaim := { program := "ytpockemjfbaheaa", sum := "70b163d519c7c885df603112400ae94f160f36946c0b5dca381165748c7eb9cf", func := "parquet/parquetlaw08.RingsJoin", spec := "ringsJoin", inPlace := ["math/bits.Add64", "math/bits.Sub64"], unfollowed := true, recurses := true, plainKeys := false, apart := false, narrowed := true }
def RingsJoinUptoSaid : Prop := ringsJoinUptoRow.holds Try.pinned (OpenSpec.upto ringsJoinSpec)

end Rows
end Go.Proofs.Ytpockemjfbaheaa
