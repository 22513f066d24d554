/-
  No cell of these rows narrows 'for every input' (looked for: loops, veiled, ifaces, maps, wideKeys, modest, calm, conditions, laid).
  DERIVED. THE GIVEN ROWS OF THIS SEAT. 10 by the template 'for every input the law returns true; each argument reads behind the call as it read before'; 0 by the template 'total and deterministic' (their statements: YtpjaefcmaiimlaaTotals.lean).
  GIVEN WITH THE SEED: the statements are not yours to turn. If you find one false, say at which input.
  Laid BY PROGRAM, IN A SANDBOX (cutbox-rows.mjs): the forced cells as the released guide's own fill.sh prints them over the translation 05cdf58f4fd962d9… (all of the seat's roots in one cut). By AI agents, Wed Nov 11 2026. No macro, syntax, notation, axiom, sorry.
-/
import Derived.Test.YtpjaefcmaiimlaaChecked
import GoSem.Claim
import GoSem.ClaimJoined
import GoSem.ClaimMapViews
import Derived.JoinedTies
import Derived.KernelRfl
namespace Go.Proofs.Ytpjaefcmaiimlaa
/- THE CELL 'sum', in the pinned program and in every row, IS THE sha256 OF THE DUMP (.gsa) THAT YtpjaefcmaiimlaaProg.lean LOADS. Nothing in Lean hashes anything: it is a label: what it is worth is what the hold of that sum in a sandbox is worth. -/
noncomputable def Try.pinned : Pinned := { name := "ytpjaefcmaiimlaa", sum := "05cdf58f4fd962d9431b53eef9eeb36c291192227416ac54be8f45cb07e17864", checked := Try.checked }
namespace Rows
def none {H : Type} : Left H := { results := [], args := [] }

/-- 'parquetlaw02.TokenWords': WHATEVER THE INPUT: true; the input reads as it did. -/
def tokenWordsSpec : ChangeSpec := { name := "tokenWords", fn := fun _ => fun
  | [d1, d2] => { results := [.lit (.bool true)], args := [d1, d2] }
  | _ => none }
def tokenWordsRow : OpenClaim := { program := "ytpjaefcmaiimlaa", sum := "05cdf58f4fd962d9431b53eef9eeb36c291192227416ac54be8f45cb07e17864", func := "parquet/parquetlaw02.TokenWords", spec := "tokenWords", unfollowed := true, recurses := true, plainKeys := false, apart := false }
def TokenWordsSaid : Prop := tokenWordsRow.holds Try.pinned (OpenSpec.ofChange tokenWordsSpec)

/-- ITS FALSE NEIGHBOUR: 'it returns false'. Refute it at one input. -/
def tokenWordsWrong : ChangeSpec := { name := "tokenWords", fn := fun _ => fun
  | [d1, d2] => { results := [.lit (.bool false)], args := [d1, d2] }
  | _ => none }
def TokenWordsWrongFalsely : Prop := tokenWordsRow.holds Try.pinned (OpenSpec.ofChange tokenWordsWrong)

/-- 'parquetlaw10.ValidSame': WHATEVER THE INPUT: true; the input reads as it did. -/
def validSameSpec : ChangeSpec := { name := "validSame", fn := fun _ => fun
  | [d1, d2] => { results := [.lit (.bool true)], args := [d1, d2] }
  | _ => none }
def validSameRow : OpenClaim := { program := "ytpjaefcmaiimlaa", sum := "05cdf58f4fd962d9431b53eef9eeb36c291192227416ac54be8f45cb07e17864", func := "parquet/parquetlaw10.ValidSame", spec := "validSame", inPlace := ["math/bits.Sub64", "math/bits.Add64"], unfollowed := true, recurses := true, plainKeys := false, apart := false }
def ValidSameSaid : Prop := validSameRow.holds Try.pinned (OpenSpec.ofChange validSameSpec)

/-- ITS FALSE NEIGHBOUR: 'it returns false'. Refute it at one input. -/
def validSameWrong : ChangeSpec := { name := "validSame", fn := fun _ => fun
  | [d1, d2] => { results := [.lit (.bool false)], args := [d1, d2] }
  | _ => none }
def ValidSameWrongFalsely : Prop := validSameRow.holds Try.pinned (OpenSpec.ofChange validSameWrong)

/-- 'parquetlaw10.ValidRight': WHATEVER THE INPUT: true; the input reads as it did. -/
def validRightSpec : ChangeSpec := { name := "validRight", fn := fun _ => fun
  | [d] => { results := [.lit (.bool true)], args := [d] }
  | _ => none }
def validRightRow : OpenClaim := { program := "ytpjaefcmaiimlaa", sum := "05cdf58f4fd962d9431b53eef9eeb36c291192227416ac54be8f45cb07e17864", func := "parquet/parquetlaw10.ValidRight", spec := "validRight", inPlace := ["math/bits.Sub64", "math/bits.Add64"], unfollowed := true, recurses := true, plainKeys := false, apart := false }
def ValidRightSaid : Prop := validRightRow.holds Try.pinned (OpenSpec.ofChange validRightSpec)

/-- ITS FALSE NEIGHBOUR: 'it returns false'. Refute it at one input. -/
def validRightWrong : ChangeSpec := { name := "validRight", fn := fun _ => fun
  | [d] => { results := [.lit (.bool false)], args := [d] }
  | _ => none }
def ValidRightWrongFalsely : Prop := validRightRow.holds Try.pinned (OpenSpec.ofChange validRightWrong)

/-- 'parquetlaw10.ValidHurt': WHATEVER THE INPUT: true; the input reads as it did. -/
def validHurtSpec : ChangeSpec := { name := "validHurt", fn := fun _ => fun
  | [d1, d2] => { results := [.lit (.bool true)], args := [d1, d2] }
  | _ => none }
def validHurtRow : OpenClaim := { program := "ytpjaefcmaiimlaa", sum := "05cdf58f4fd962d9431b53eef9eeb36c291192227416ac54be8f45cb07e17864", func := "parquet/parquetlaw10.ValidHurt", spec := "validHurt", inPlace := ["math/bits.Sub64", "math/bits.Add64"], unfollowed := true, recurses := true, plainKeys := false, apart := false }
def ValidHurtSaid : Prop := validHurtRow.holds Try.pinned (OpenSpec.ofChange validHurtSpec)

/-- ITS FALSE NEIGHBOUR: 'it returns false'. Refute it at one input. -/
def validHurtWrong : ChangeSpec := { name := "validHurt", fn := fun _ => fun
  | [d1, d2] => { results := [.lit (.bool false)], args := [d1, d2] }
  | _ => none }
def ValidHurtWrongFalsely : Prop := validHurtRow.holds Try.pinned (OpenSpec.ofChange validHurtWrong)

/-- 'parquetlaw10.ValidMoved': WHATEVER THE INPUT: true; the input reads as it did. -/
def validMovedSpec : ChangeSpec := { name := "validMoved", fn := fun _ => fun
  | [d1, d2] => { results := [.lit (.bool true)], args := [d1, d2] }
  | _ => none }
def validMovedRow : OpenClaim := { program := "ytpjaefcmaiimlaa", sum := "05cdf58f4fd962d9431b53eef9eeb36c291192227416ac54be8f45cb07e17864", func := "parquet/parquetlaw10.ValidMoved", spec := "validMoved", inPlace := ["math/bits.Sub64", "math/bits.Add64"], unfollowed := true, recurses := true, plainKeys := false, apart := false }
def ValidMovedSaid : Prop := validMovedRow.holds Try.pinned (OpenSpec.ofChange validMovedSpec)

/-- ITS FALSE NEIGHBOUR: 'it returns false'. Refute it at one input. -/
def validMovedWrong : ChangeSpec := { name := "validMoved", fn := fun _ => fun
  | [d1, d2] => { results := [.lit (.bool false)], args := [d1, d2] }
  | _ => none }
def ValidMovedWrongFalsely : Prop := validMovedRow.holds Try.pinned (OpenSpec.ofChange validMovedWrong)

/-- 'parquetlaw10.ValidHole': WHATEVER THE INPUT: true; the input reads as it did. -/
def validHoleSpec : ChangeSpec := { name := "validHole", fn := fun _ => fun
  | [d1, d2, d3, d4] => { results := [.lit (.bool true)], args := [d1, d2, d3, d4] }
  | _ => none }
def validHoleRow : OpenClaim := { program := "ytpjaefcmaiimlaa", sum := "05cdf58f4fd962d9431b53eef9eeb36c291192227416ac54be8f45cb07e17864", func := "parquet/parquetlaw10.ValidHole", spec := "validHole", inPlace := ["math/bits.Sub64", "math/bits.Add64"], unfollowed := true, recurses := true, plainKeys := false, apart := false }
def ValidHoleSaid : Prop := validHoleRow.holds Try.pinned (OpenSpec.ofChange validHoleSpec)

/-- ITS FALSE NEIGHBOUR: 'it returns false'. Refute it at one input. -/
def validHoleWrong : ChangeSpec := { name := "validHole", fn := fun _ => fun
  | [d1, d2, d3, d4] => { results := [.lit (.bool false)], args := [d1, d2, d3, d4] }
  | _ => none }
def ValidHoleWrongFalsely : Prop := validHoleRow.holds Try.pinned (OpenSpec.ofChange validHoleWrong)

/-- 'parquetlaw11.FacesTells': WHATEVER THE INPUT: true; the input reads as it did. -/
def facesTellsSpec : ChangeSpec := { name := "facesTells", fn := fun _ => fun
  | [d1, d2, d3, d4] => { results := [.lit (.bool true)], args := [d1, d2, d3, d4] }
  | _ => none }
def facesTellsRow : OpenClaim := { program := "ytpjaefcmaiimlaa", sum := "05cdf58f4fd962d9431b53eef9eeb36c291192227416ac54be8f45cb07e17864", func := "parquet/parquetlaw11.FacesTells", spec := "facesTells", unfollowed := true, recurses := true, plainKeys := false, apart := false }
def FacesTellsSaid : Prop := facesTellsRow.holds Try.pinned (OpenSpec.ofChange facesTellsSpec)

/-- ITS FALSE NEIGHBOUR: 'it returns false'. Refute it at one input. -/
def facesTellsWrong : ChangeSpec := { name := "facesTells", fn := fun _ => fun
  | [d1, d2, d3, d4] => { results := [.lit (.bool false)], args := [d1, d2, d3, d4] }
  | _ => none }
def FacesTellsWrongFalsely : Prop := facesTellsRow.holds Try.pinned (OpenSpec.ofChange facesTellsWrong)

/-- 'parquetlaw11.FacesRims': WHATEVER THE INPUT: true; the input reads as it did. -/
def facesRimsSpec : ChangeSpec := { name := "facesRims", fn := fun _ => fun
  | [d1, d2] => { results := [.lit (.bool true)], args := [d1, d2] }
  | _ => none }
def facesRimsRow : OpenClaim := { program := "ytpjaefcmaiimlaa", sum := "05cdf58f4fd962d9431b53eef9eeb36c291192227416ac54be8f45cb07e17864", func := "parquet/parquetlaw11.FacesRims", spec := "facesRims", unfollowed := true, recurses := true, plainKeys := false, apart := false }
def FacesRimsSaid : Prop := facesRimsRow.holds Try.pinned (OpenSpec.ofChange facesRimsSpec)

/-- ITS FALSE NEIGHBOUR: 'it returns false'. Refute it at one input. -/
def facesRimsWrong : ChangeSpec := { name := "facesRims", fn := fun _ => fun
  | [d1, d2] => { results := [.lit (.bool false)], args := [d1, d2] }
  | _ => none }
def FacesRimsWrongFalsely : Prop := facesRimsRow.holds Try.pinned (OpenSpec.ofChange facesRimsWrong)

/-- 'parquetlaw11.FacesOrder': WHATEVER THE INPUT: true; the input reads as it did. -/
def facesOrderSpec : ChangeSpec := { name := "facesOrder", fn := fun _ => fun
  | [d1, d2, d3, d4] => { results := [.lit (.bool true)], args := [d1, d2, d3, d4] }
  | _ => none }
def facesOrderRow : OpenClaim := { program := "ytpjaefcmaiimlaa", sum := "05cdf58f4fd962d9431b53eef9eeb36c291192227416ac54be8f45cb07e17864", func := "parquet/parquetlaw11.FacesOrder", spec := "facesOrder", unfollowed := true, recurses := true, plainKeys := false, apart := false }
def FacesOrderSaid : Prop := facesOrderRow.holds Try.pinned (OpenSpec.ofChange facesOrderSpec)

/-- ITS FALSE NEIGHBOUR: 'it returns false'. Refute it at one input. -/
def facesOrderWrong : ChangeSpec := { name := "facesOrder", fn := fun _ => fun
  | [d1, d2, d3, d4] => { results := [.lit (.bool false)], args := [d1, d2, d3, d4] }
  | _ => none }
def FacesOrderWrongFalsely : Prop := facesOrderRow.holds Try.pinned (OpenSpec.ofChange facesOrderWrong)

/-- 'parquetlaw11.FacesSides': WHATEVER THE INPUT: true; the input reads as it did. -/
def facesSidesSpec : ChangeSpec := { name := "facesSides", fn := fun _ => fun
  | [d1, d2] => { results := [.lit (.bool true)], args := [d1, d2] }
  | _ => none }
def facesSidesRow : OpenClaim := { program := "ytpjaefcmaiimlaa", sum := "05cdf58f4fd962d9431b53eef9eeb36c291192227416ac54be8f45cb07e17864", func := "parquet/parquetlaw11.FacesSides", spec := "facesSides", unfollowed := true, recurses := true, plainKeys := false, apart := false }
def FacesSidesSaid : Prop := facesSidesRow.holds Try.pinned (OpenSpec.ofChange facesSidesSpec)

/-- ITS FALSE NEIGHBOUR: 'it returns false'. Refute it at one input. -/
def facesSidesWrong : ChangeSpec := { name := "facesSides", fn := fun _ => fun
  | [d1, d2] => { results := [.lit (.bool false)], args := [d1, d2] }
  | _ => none }
def FacesSidesWrongFalsely : Prop := facesSidesRow.holds Try.pinned (OpenSpec.ofChange facesSidesWrong)

/- THE SECOND FORM. 'bulk': how many values and letters a reading holds, each counted each time it is reached (what is shared counts as often as it is met; a slice's spare places count too). A statement '..UptoSaid' is the law's where the arguments, and the package variables that the reading takes, are together of bulk at most 1048576: NARROWER than '..Said'. Prove '..Said' where nothing that the law and all that it calls make is longer than what came in: it says more and counts as full. Else prove '..UptoSaid'. A law counts once. -/
mutual
def uptoBulk {H : Type} : DataW H → Nat
  | .lit (.string bytes) => bytes.length + 1
  | .lit _ => 1
  | .nil => 1
  | .ptr d => uptoBulk d + 1
  | .slice elems spare => uptoBulkAll elems + uptoBulkAll spare + 1
  | .agg parts => uptoBulkAll parts + 1
  | .iface _ d => uptoBulk d + 1
  | .map entries => uptoBulkEntries entries + 1
  | .held _ => 1
def uptoBulkAll {H : Type} : List (DataW H) → Nat
  | [] => 0
  | d :: r => uptoBulk d + uptoBulkAll r
def uptoBulkEntries {H : Type} : List (Lit × DataW H) → Nat
  | [] => 0
  | x :: r => uptoBulkEntry x + uptoBulkEntries r
def uptoBulkEntry {H : Type} : Lit × DataW H → Nat
  | (.string bytes, d) => bytes.length + uptoBulk d + 1
  | (_, d) => uptoBulk d + 1
 end
def uptoSmall : (H : Type) → List (DataW H) → Bool := fun _ ds => decide (uptoBulkAll ds ≤ 1048576)
def OpenSpec.upto (s : _root_.Go.ChangeSpec) : _root_.Go.OpenSpec := { _root_.Go.OpenSpec.ofChange s with cond := some uptoSmall }

/-- 'parquetlaw02.TokenWords', WHERE WHAT IT READS IS OF BULK AT MOST 1048576: true; the input reads as it did. -/
def tokenWordsUptoRow : OpenClaim := { program := "ytpjaefcmaiimlaa", sum := "05cdf58f4fd962d9431b53eef9eeb36c291192227416ac54be8f45cb07e17864", func := "parquet/parquetlaw02.TokenWords", spec := "tokenWords", unfollowed := true, recurses := true, plainKeys := false, apart := false, narrowed := true }
def TokenWordsUptoSaid : Prop := tokenWordsUptoRow.holds Try.pinned (OpenSpec.upto tokenWordsSpec)

/-- 'parquetlaw10.ValidSame', WHERE WHAT IT READS IS OF BULK AT MOST 1048576: true; the input reads as it did. -/
def validSameUptoRow : OpenClaim := { program := "ytpjaefcmaiimlaa", sum := "05cdf58f4fd962d9431b53eef9eeb36c291192227416ac54be8f45cb07e17864", func := "parquet/parquetlaw10.ValidSame", spec := "validSame", inPlace := ["math/bits.Sub64", "math/bits.Add64"], unfollowed := true, recurses := true, plainKeys := false, apart := false, narrowed := true }
def ValidSameUptoSaid : Prop := validSameUptoRow.holds Try.pinned (OpenSpec.upto validSameSpec)

/-- 'parquetlaw10.ValidRight', WHERE WHAT IT READS IS OF BULK AT MOST 1048576: true; the input reads as it did. -/
def validRightUptoRow : OpenClaim := { program := "ytpjaefcmaiimlaa", sum := "05cdf58f4fd962d9431b53eef9eeb36c291192227416ac54be8f45cb07e17864", func := "parquet/parquetlaw10.ValidRight", spec := "validRight", inPlace := ["math/bits.Sub64", "math/bits.Add64"], unfollowed := true, recurses := true, plainKeys := false, apart := false, narrowed := true }
def ValidRightUptoSaid : Prop := validRightUptoRow.holds Try.pinned (OpenSpec.upto validRightSpec)

/-- 'parquetlaw10.ValidHurt', WHERE WHAT IT READS IS OF BULK AT MOST 1048576: true; the input reads as it did. -/
def validHurtUptoRow : OpenClaim := { program := "ytpjaefcmaiimlaa", sum := "05cdf58f4fd962d9431b53eef9eeb36c291192227416ac54be8f45cb07e17864", func := "parquet/parquetlaw10.ValidHurt", spec := "validHurt", inPlace := ["math/bits.Sub64", "math/bits.Add64"], unfollowed := true, recurses := true, plainKeys := false, apart := false, narrowed := true }
def ValidHurtUptoSaid : Prop := validHurtUptoRow.holds Try.pinned (OpenSpec.upto validHurtSpec)

/-- 'parquetlaw10.ValidMoved', WHERE WHAT IT READS IS OF BULK AT MOST 1048576: true; the input reads as it did. -/
def validMovedUptoRow : OpenClaim := { program := "ytpjaefcmaiimlaa", sum := "05cdf58f4fd962d9431b53eef9eeb36c291192227416ac54be8f45cb07e17864", func := "parquet/parquetlaw10.ValidMoved", spec := "validMoved", inPlace := ["math/bits.Sub64", "math/bits.Add64"], unfollowed := true, recurses := true, plainKeys := false, apart := false, narrowed := true }
def ValidMovedUptoSaid : Prop := validMovedUptoRow.holds Try.pinned (OpenSpec.upto validMovedSpec)

/-- 'parquetlaw10.ValidHole', WHERE WHAT IT READS IS OF BULK AT MOST 1048576: true; the input reads as it did. -/
def validHoleUptoRow : OpenClaim := { program := "ytpjaefcmaiimlaa", sum := "05cdf58f4fd962d9431b53eef9eeb36c291192227416ac54be8f45cb07e17864", func := "parquet/parquetlaw10.ValidHole", spec := "validHole", inPlace := ["math/bits.Sub64", "math/bits.Add64"], unfollowed := true, recurses := true, plainKeys := false, apart := false, narrowed := true }
def ValidHoleUptoSaid : Prop := validHoleUptoRow.holds Try.pinned (OpenSpec.upto validHoleSpec)

/-- 'parquetlaw11.FacesTells', WHERE WHAT IT READS IS OF BULK AT MOST 1048576: true; the input reads as it did. -/
def facesTellsUptoRow : OpenClaim := { program := "ytpjaefcmaiimlaa", sum := "05cdf58f4fd962d9431b53eef9eeb36c291192227416ac54be8f45cb07e17864", func := "parquet/parquetlaw11.FacesTells", spec := "facesTells", unfollowed := true, recurses := true, plainKeys := false, apart := false, narrowed := true }
def FacesTellsUptoSaid : Prop := facesTellsUptoRow.holds Try.pinned (OpenSpec.upto facesTellsSpec)

/-- 'parquetlaw11.FacesRims', WHERE WHAT IT READS IS OF BULK AT MOST 1048576: true; the input reads as it did. -/
def facesRimsUptoRow : OpenClaim := { program := "ytpjaefcmaiimlaa", sum := "05cdf58f4fd962d9431b53eef9eeb36c291192227416ac54be8f45cb07e17864", func := "parquet/parquetlaw11.FacesRims", spec := "facesRims", unfollowed := true, recurses := true, plainKeys := false, apart := false, narrowed := true }
def FacesRimsUptoSaid : Prop := facesRimsUptoRow.holds Try.pinned (OpenSpec.upto facesRimsSpec)

/-- 'parquetlaw11.FacesOrder', WHERE WHAT IT READS IS OF BULK AT MOST 1048576: true; the input reads as it did. -/
def facesOrderUptoRow : OpenClaim := { program := "ytpjaefcmaiimlaa", sum := "05cdf58f4fd962d9431b53eef9eeb36c291192227416ac54be8f45cb07e17864", func := "parquet/parquetlaw11.FacesOrder", spec := "facesOrder", unfollowed := true, recurses := true, plainKeys := false, apart := false, narrowed := true }
def FacesOrderUptoSaid : Prop := facesOrderUptoRow.holds Try.pinned (OpenSpec.upto facesOrderSpec)

/-- 'parquetlaw11.FacesSides', WHERE WHAT IT READS IS OF BULK AT MOST 1048576: true; the input reads as it did. -/
def facesSidesUptoRow : OpenClaim := { program := "ytpjaefcmaiimlaa", sum := "05cdf58f4fd962d9431b53eef9eeb36c291192227416ac54be8f45cb07e17864", func := "parquet/parquetlaw11.FacesSides", spec := "facesSides", unfollowed := true, recurses := true, plainKeys := false, apart := false, narrowed := true }
def FacesSidesUptoSaid : Prop := facesSidesUptoRow.holds Try.pinned (OpenSpec.upto facesSidesSpec)

end Rows
end Go.Proofs.Ytpjaefcmaiimlaa
